import Derived.Test.YtfldcmdhneegmabGreatDoorZ32
import Derived.Test.YtfldcmdhneegmabGreatDoorVals
import Derived.Laws.StructEq
import Derived.MapKept
import Derived.RangeFuncNested
import Derived.RangeFuncBound
import Derived.RangeFuncCalls
import Derived.RangeFuncLeaves
import Derived.RangeFuncBox
import Derived.Shelf.Abstract
import Derived.Shelf.RegionOpen
import Derived.WalkKit
import Derived.OwnWalkIn
import Derived.TacticsInMore
import Derived.LoopNIn
import Derived.LoopIn
import Derived.Test.YtfldcmdhneegmabGreatDoorX1
import Derived.Shelf.SlicesE.DeleteFunc
import Derived.Laws.BytesArg
import Derived.Deep.AppendLies
import Derived.Deep.RegionHeld3
import Derived.Test.YtfldcmdhneegmabGreatDoorZ09

/-
  package bytes' WALK of Equal, at rows of bytes.
-/
namespace Go.Proofs.YtfldcmdhneegmabGreatDoor
open Go.RowKit Go.Lib

set_option maxHeartbeats 1000000 in
theorem bEqual_any (F G : Nat → Prop) (v u : Value) (l m : List UInt8) (w : World) (h : BytesAt F w v l) (h' : BytesAt G w u m) (hn : v ≠ .slice none 0 0) (hn' : u ≠ .slice none 0 0) :
    Calls Tryz.prog 102 #[v, u] w fun e w' => e = .returned (.bool (decide (l = m))) ∧ w' = w := by
  have h10 := h.text hn
  have h20 := h'.text hn'
  clear h h'
  go_enter Tryz.func102, Tryz.ntmps102
  go_wp2
  go_ret
  refine ⟨?_, rfl⟩
  by_cases e : l = m
  · subst e; simp
  · simp [e]


end Go.Proofs.YtfldcmdhneegmabGreatDoor

/-
  A MAP WHOSE KEYS ARE PLACES (a sum, a number of deltas): looking up and storing.
-/
namespace Go.Proofs.YtfldcmdhneegmabGreatDoor
open Go.RowKit Go.Lib

/-- A place, as a value. -/
def pk (s k : Nat) : Value := .agg #[.int .u32 s, .int .i64 k]
theorem Tryz.fieldsPlace : Tryz.prog.underlying 191 = some (.struct (Tryz.prog.fieldsOf 191)) := by kernel_rfl
theorem Tryz.heldPlace : Tryz.prog.stoodInHeld 191 = false := by kernel_rfl
set_option maxRecDepth 100000 in
theorem eq_place (s k s' k' : Nat) (w : World) : (Op.equal 191 (pk s k) (pk s' k')).run Tryz.prog w = .ok (decide (s = s' ∧ k = k')) w := by
  have h := run_equalIn_struct (P := Tryz.prog) w 9999 191 #[.int .u32 s, .int .i64 k] #[.int .u32 s', .int .i64 k'] Tryz.fieldsPlace Tryz.heldPlace
  have hm : (Tryz.prog.fieldsOf 191).toList.map (fun f => (f.name, f.type, f.offset)) = [("sum", 88, 0), ("within", 3, 1)] := by kernel_rfl
  have hf : ∃ f g, (Tryz.prog.fieldsOf 191).toList = [f, g] ∧ f.name = "sum" ∧ f.type = 88 ∧ f.offset = 0 ∧ g.name = "within" ∧ g.type = 3 ∧ g.offset = 1 := by
    generalize (Tryz.prog.fieldsOf 191).toList = fs at hm
    obtain ⟨f, r1, rfl, h1, hm⟩ := List.map_eq_cons_iff.1 hm
    obtain ⟨g, r2, rfl, h2, hm⟩ := List.map_eq_cons_iff.1 hm
    obtain rfl := List.map_eq_nil_iff.1 hm
    simp only [Prod.mk.injEq] at h1 h2
    exact ⟨f, g, rfl, h1.1, h1.2.1, h1.2.2, h2.1, h2.2.1, h2.2.2⟩
  obtain ⟨f, g, hf, f1, f2, f3, g1, g2, g3⟩ := hf
  unfold Op.equal Op.maxDepth pk
  rw [h, hf]
  have p1 : ∀ (x y : Value), (part 88 #[x, y] 0).run Tryz.prog w = .ok x w := fun x y => by kernel_rfl
  have p2 : ∀ (x y : Value), (part 3 #[x, y] 1).run Tryz.prog w = .ok y w := fun x y => by kernel_rfl
  have q1 := run_equalIn_int (P := Tryz.prog) w 9998 88 .u32 .u32 s s' Tryz.underlying88
  have q2 := run_equalIn_int (P := Tryz.prog) w 9998 3 .i64 .i64 k k' Tryz.underlying3
  by_cases hs : s = s'
  · subst hs
    simp [Op.eqFields, f1, f2, f3, g1, g2, g3, p1, p2, q1, q2, Result.andThen]
    by_cases hk : k = k'
    · subst hk; simp
    · simp [hk]
      omega
  · simp [Op.eqFields, f1, f2, f3, g1, g2, g3, p1, p2, q1, q2, Result.andThen, hs]
    intro e
    omega
theorem Tryz.checkPlace (b : Bool) (s k : Nat) (w : World) : (Instr.checkKey b 10000 191 (pk s k)).run Tryz.prog w = .ok () w := by kernel_rfl

/-- What is kept: at each place a value. -/
abbrev Ent := Nat × Nat × Value
def entOf (e : Ent) (b : Nat) : MapEntry := { key := pk e.1 e.2.1, val := e.2.2, born := b }
/-- The map's entries. -/
def EntsAt (es : List MapEntry) (l : List Ent) : Prop := ∃ bs : List Nat, bs.length = l.length ∧ es = (l.zip bs).map fun x => entOf x.1 x.2
/-- Where a place is, and what lies there. -/
def findE (s k : Nat) : List Ent → Nat → Option (Nat × Value)
  | [], _ => none
  | e :: r, i => if s = e.1 ∧ k = e.2.1 then some (i, e.2.2) else findE s k r (i + 1)
def valE (s k : Nat) (l : List Ent) : Value := ((findE s k l 0).map (·.2)).getD (.slice none 0 0)
theorem find_place (s k : Nat) (w : World) : ∀ (l : List Ent) (es : List MapEntry) (i : Nat), EntsAt es l → (Instr.findAsking 191 (pk s k) es i).run Tryz.prog w = .ok (findE s k l i) w := by
  intro l
  induction l with
  | nil =>
    rintro es i ⟨bs, hb, rfl⟩
    simp [Instr.findAsking, findE]
  | cons e r ih =>
    rintro es i ⟨bs, hb, rfl⟩
    cases bs with
    | nil => simp at hb
    | cons b bs =>
      have h2 := ih _ (i + 1) ⟨bs, by simpa using hb, rfl⟩
      simp only [List.zip_cons_cons, List.map_cons, Instr.findAsking, Sem.run_bind]
      have h3 : (entOf e b).key = pk e.1 e.2.1 := rfl
      rw [h3, eq_place]
      simp only [Result.andThen]
      unfold findE
      by_cases h : s = e.1 ∧ k = e.2.1
      · rw [if_pos h, decide_eq_true h]
        rfl
      · rw [if_neg h, decide_eq_false h]
        exact h2
theorem findKey_place (s k : Nat) (w : World) (l : List Ent) (es : List MapEntry) (h : EntsAt es l) : (Instr.findKey 191 (pk s k) es).run Tryz.prog w = .ok (findE s k l 0) w := by
  unfold Instr.findKey
  simp only [Sem.run_bind, run_underlying Tryz.fieldsPlace, Result.andThen]
  obtain ⟨bs, hb, rfl⟩ := h
  cases l with
  | nil => simp [Instr.findNow, findE]
  | cons e r =>
    cases bs with
    | nil => simp at hb
    | cons b bs =>
      have : Instr.findNow (.struct (Tryz.prog.fieldsOf 191)) (pk s k) (((e :: r).zip (b :: bs)).map fun x => entOf x.1 x.2) 0 = none := rfl
      rw [this]
      exact find_place s k w (e :: r) _ 0 ⟨b :: bs, hb, rfl⟩
theorem Tryz.zeroRow (w : World) : (zeroValue 35).run Tryz.prog w = .ok (.slice none 0 0) w := by kernel_rfl
/-- The map in memory. -/
def MapAt (w : World) (r : Nat) (l : List Ent) : Prop := ∃ es clock, w.heap[r]? = some (.map es clock) ∧ EntsAt es.toList l
theorem run_look {w : World} {r : Nat} {l : List Ent} (h : MapAt w r l) (s k : Nat) : (Instr.lookup 112 (.map (some r)) (pk s k) false).run Tryz.prog w = .ok (valE s k l) w := by
  obtain ⟨es, clock, hb, he⟩ := h
  unfold Instr.lookup
  simp only [Sem.run_bind, run_underlying Tryz.underlying112, Result.andThen, MapKept.run_getObj_map hb, Sem.run_pure, Tryz.checkPlace, findKey_place s k w l _ he]
  unfold valE
  cases hf : findE s k l 0 with
  | none => simp
  | some x => simp

end Go.Proofs.YtfldcmdhneegmabGreatDoor

/-
  package slices' WALK of Backward at rows of rows of bytes.
-/
namespace Go.Proofs.YtfldcmdhneegmabGreatDoor
open Go.RowKit Go.Lib Go.Shelf

attribute [local go_sem] Oper.semAt_some

/-- A block of bytes. -/
def U8 (w : World) (i : Nat) : Prop := ∃ c fz, w.heap[i]? = some (.cells c 5 fz)
/-- A state that is kept: its row in memory, its bytes. -/
def StAt (w : World) (c : Value) (x : List UInt8) : Prop := c ≠ .slice none 0 0 ∧ BytesAt (U8 w) w c x ∧ 5 ≤ x.length ∧ x.length ≤ 400000
/-- What Backward hands out: an index, a row, its bytes. -/
abbrev Item (w : World) := { x : Nat × Value × List UInt8 // StAt w x.2.1 x.2.2 }
abbrev itemVals (w : World) (x : Item w) : Array Value := #[.int .i64 (x.1.1 : Int), x.1.2.1]

set_option maxRecDepth 100000 in
set_option maxHeartbeats 2000000 in
theorem backward1_in (F : Fence) (n : Nat) (h7 : F.fn 198) (hro : F.round = none) (hn : 1 ≤ n) (l Bs n₀ b off cap : Nat) (w0 : World) (zs : List (Item w0)) (hlen : zs.length ≤ 1000) (hb : b < n₀) (hBn : Bs < n₀) (J Jx : List (Item w0) → World → Prop)
    (hY : ∀ pre x W, J pre W → pre.length < zs.length → YieldAt F (n - 1) Tryz.prog l (itemVals w0 x) W fun e W' =>
      (e = .returned (.bool true) ∧ J (pre ++ [x]) W' ∧ Below n₀ W W') ∨ (e = .returned (.bool false) ∧ Jx (pre ++ [x]) W'))
    (W : World) (hBs : W.cell? ⟨Bs, 0, none⟩ = some (.slice (some ⟨b, off, none⟩) zs.length cap))
    (hc : ∀ j (hj : j < zs.length), zs[j].1.1 + j + 1 = zs.length ∧ W.cell? ⟨b, off + zs[j].1.1, none⟩ = some zs[j].1.2.1) (h0 : J [] W) :
    CallsIn F n Tryz.prog 198 #[.func (.yield l) #[] #[], .pointer (some ⟨Bs, 0, none⟩)] W fun e W' => (∃ v, e = .returned v) ∧
      ((∃ ys, ys = zs ∧ J ys W') ∨ (∃ pre, pre <+: zs ∧ Jx pre W')) := by
  refine callsIn_of_wp Tryz.func198 rfl h7 ?_ hro
  simp only [Tryz.ntmps198, List.size_toArray, List.length_cons, List.length_nil, Nat.reduceAdd, Nat.reduceSub, Array.replicate_succ, Array.replicate_zero, List.push_toArray, List.append_toArray, List.nil_append, List.cons_append]
  gi_wp2
  gi_loopw [3] (fun i wr => ∃ k : Nat, k ≤ zs.length ∧ i = .int .i64 ((zs.length : Int) - 1 - k) ∧ J (zs.take k) wr ∧ Below n₀ W wr)
    (fun i _ => ((intOf i) + 1).toNat)
  case atStart => exact ⟨0, Nat.zero_le _, by simp, by simpa using h0, Below.refl _ _⟩
  case round =>
    obtain ⟨k, hk, rfl, hJs, hnx⟩ := hrel
    have hBs' := (hnx.cell (p := ⟨Bs, 0, none⟩) hBn).trans hBs
    by_cases hlt : k < zs.length
    · obtain ⟨⟨⟨i0, c0, y0⟩, hx0⟩, hz⟩ : ∃ x, zs[k] = x := ⟨_, rfl⟩
      obtain ⟨hi0, hcx⟩ := hc k hlt
      rw [hz] at hi0 hcx
      simp only [] at hi0 hcx
      have hcx' := (hnx.cell (p := ⟨b, off + i0, none⟩) hb).trans hcx
      have hi : (zs.length : Int) - 1 - k = (i0 : Int) := by omega
      have hil : (i0 : Int) < (zs.length : Int) := by omega
      have hi1 : (0 : Int) ≤ (i0 : Int) := by omega
      rw [hi]
      obtain ⟨fn, tmps, assign, body, hy, hR⟩ := hY _ ⟨(i0, c0, y0), hx0⟩ wr hJs (by rw [List.length_take]; omega)
      dsimp only [itemVals] at hy
      have hts : zs.take k ++ [⟨(i0, c0, y0), hx0⟩] = zs.take (k + 1) := by rw [List.take_add_one, List.getElem?_eq_getElem hlt, hz]; rfl
      gi_wp2
      refine hR.mono ?_
      rintro e W3 (⟨rfl, hJ3, hk3⟩ | ⟨rfl, hJx3⟩)
      · rw [hts] at hJ3
        gi_wp2
        go_roundw
        case rel => exact ⟨k + 1, by omega, by rw [← hi]; congr 1; omega, hJ3, hnx.trans hk3⟩
        case measure => simp [intOf]
      · rw [hts] at hJx3
        gi_wp2
        refine bodyPost_ret (results_none rfl _ _ _) rfl ?_
        exact ⟨⟨_, rfl⟩, .inr ⟨_, List.take_prefix _ _, hJx3⟩⟩
    · obtain rfl : k = zs.length := by omega
      have hng : ((zs.length : Int) - 1 - (zs.length : Int)) = -1 := by omega
      rw [hng]
      gi_wp2
      go_end0
      exact ⟨⟨_, rfl⟩, .inl ⟨_, rfl, by simpa using hJs⟩⟩

set_option maxRecDepth 100000 in
set_option maxHeartbeats 1000000 in
/-- .. at the nil row: no round. -/
theorem backward1_nil_in (F : Fence) (n : Nat) (h7 : F.fn 198) (hro : F.round = none) (l Bs : Nat) (w0 : World) (J : List (Item w0) → World → Prop) (W : World) (hBs : W.cell? ⟨Bs, 0, none⟩ = some (.slice none 0 0)) (h0 : J [] W) :
    CallsIn F n Tryz.prog 198 #[.func (.yield l) #[] #[], .pointer (some ⟨Bs, 0, none⟩)] W fun e W' => (∃ v, e = .returned v) ∧ J [] W' := by
  refine callsIn_of_wp Tryz.func198 rfl h7 ?_ hro
  simp only [Tryz.ntmps198, List.size_toArray, List.length_cons, List.length_nil, Nat.reduceAdd, Nat.reduceSub, Array.replicate_succ, Array.replicate_zero, List.push_toArray, List.append_toArray, List.nil_append, List.cons_append]
  gi_wp2
  gi_loopw [3] (fun i wr => i = .int .i64 (-1) ∧ J [] wr) (fun _ _ => 0)
  case atStart => exact ⟨rfl, h0⟩
  case round =>
    obtain ⟨rfl, hJs⟩ := hrel
    gi_wp2
    go_end0
    exact ⟨⟨_, rfl⟩, hJs⟩

set_option maxHeartbeats 1000000 in
/-- Backward: the row's value is boxed; the function value captures the box. -/
theorem backward_any (a : Option Addr) (n c : Nat) (w : World) :
    Calls Tryz.prog 164 #[.slice a n c] w fun e w' => e = .returned (.func (.func 198) #[] #[.pointer (some ⟨w.heap.size, 0, none⟩)]) ∧ w' = w.alloc (.cells #[.slice a n c] 35) := by
  have hmf : ∀ (fn : Fn) (first cap : Array Value) (w : World), (Instr.makeFunc fn first cap).run Tryz.prog w = .ok (.func fn first cap) w := fun _ _ _ _ => rfl
  go_enter Tryz.func164, Tryz.ntmps164
  go_wp2
  go_ret
  exact ⟨rfl, rfl⟩

/-- The row that Backward goes through, as its items. -/
def ItemsAt (n₀ : Nat) (w0 W : World) (v : Value) (zs : List (Item w0)) : Prop :=
  (v = .slice none 0 0 ∧ zs = []) ∨ ∃ b off cap, v = .slice (some ⟨b, off, none⟩) zs.length cap ∧ b < n₀ ∧ ∀ j (hj : j < zs.length), zs[j].1.1 + j + 1 = zs.length ∧ W.cell? ⟨b, off + zs[j].1.1, none⟩ = some zs[j].1.2.1
theorem ItemsAt.below {n₀ : Nat} {w0 A B : World} {v : Value} {zs : List (Item w0)} (h : Below n₀ A B) : ItemsAt n₀ w0 A v zs → ItemsAt n₀ w0 B v zs
  | .inl e => .inl e
  | .inr ⟨b, off, cap, e, hb, hc⟩ => .inr ⟨b, off, cap, e, hb, fun j hj => ⟨(hc j hj).1, (h.cell (p := ⟨b, off + zs[j].1.1, none⟩) hb).trans (hc j hj).2⟩⟩

theorem backward_stops (F : Fence) (n : Nat) (h7 : F.fn 198) (hro : F.round = none) (hn : 1 ≤ n) (Bs n₀ : Nat) (v : Value) (w0 : World) (zs : List (Item w0)) (hlen : zs.length ≤ 1000) (w : World) (hBs : Bs < n₀) (hn₀ : n₀ ≤ w.heap.size)
    (hc : w.cell? ⟨Bs, 0, none⟩ = some v) (hI : ItemsAt n₀ w0 w v zs) :
    SeqStopsK F n Tryz.prog 198 #[.pointer (some ⟨Bs, 0, none⟩)] (itemVals w0) (Below n₀) (fun ys => ys = zs) (fun pre => pre <+: zs) zs.length w := fun l J Jx W hW _ _ hY h0 => by
  have hW' := hW.mono hn₀
  have hc' := (hW'.cell (p := ⟨Bs, 0, none⟩) hBs).trans hc
  rcases hI.below hW' with ⟨rfl, rfl⟩ | ⟨b, off, cap, rfl, hb, hcs⟩
  · exact (backward1_nil_in F n h7 hro l Bs w0 J W hc' h0).mono fun e W' ⟨he, hj⟩ => ⟨he, .inl ⟨_, rfl, hj⟩⟩
  · exact backward1_in F n h7 hro hn l Bs n₀ b off cap w0 zs hlen hb hBs J Jx hY W hc' hcs h0

end Go.Proofs.YtfldcmdhneegmabGreatDoor

/-
  package chain's WALK of led.
-/
namespace Go.Proofs.YtfldcmdhneegmabGreatDoor
open Go.RowKit Go.Lib Go.Shelf

attribute [local go_sem] Oper.semAt_some

/-- What a state becomes by a delta's parts, if it leads anywhere. -/
def ledOf (s p q : Nat) (m : List UInt8) (x : List UInt8) : Option (List UInt8) := Fr.okOf (Fr.applyIn x s p q m)
theorem ownsRow_kept {w w' : World} {base : Nat} {e : TypeId} {size : Nat} {v : Value} {n : Nat} {xs : List Value} {row : Option Nat} (h : w.ownsRow base e size v n xs) (hg : w.grownBy w' row) (hr : ∀ r, row = some r → ∃ o : Obj, w.heap[r]? = some o ∧ o.isCells = false) : w'.ownsRow base e size v n xs := by
  refine ⟨h.1, ?_⟩
  rcases h.2 with h2 | ⟨g, cap, cur, hv, hb, hh, r⟩
  · exact Or.inl h2
  · refine Or.inr ⟨g, cap, cur, hv, hb, ?_, r⟩
    rw [hg.block g (lt_of_block hh) (fun e => by obtain ⟨o, ho, hc⟩ := hr g e.symm; rw [hh] at ho; cases ho; cases hc)]
    exact hh
theorem keeps_below {W W' : World} (h : Below W.heap.size W W') : KeepsOthers W W' := ⟨h.size, fun k _ hk _ => (h.block k (lt_of_block hk)).trans hk⟩

theorem ItemsAt.up {n₀ n₁ : Nat} {w0 A : World} {v : Value} {zs : List (Item w0)} (h : ItemsAt n₀ w0 A v zs) (hn : n₀ ≤ n₁) : ItemsAt n₁ w0 A v zs := by
  rcases h with h | ⟨b, off, cap, e, hb, hc⟩
  · exact .inl h
  · exact .inr ⟨b, off, cap, e, by omega, hc⟩
theorem ErrNo.iface {c : Int} {v : Value} (h : ErrNo c v) : c ≠ 0 ∧ ∃ t x, v = .iface t x := by
  rcases h with ⟨rfl, n, m, rfl⟩ | ⟨rfl, ⟨n, s, rfl⟩ | ⟨s, rfl⟩⟩
  · exact ⟨by decide, _, _, rfl⟩
  · exact ⟨by decide, _, _, rfl⟩
  · exact ⟨by decide, _, _, rfl⟩
theorem ApEnd.ok {D : List UInt8} {w w' : World} {e : Ending} (h : ApEnd (D, 0) w e w') : ∃ a c, e = .returned (.tuple #[.slice a D.length c, .nilIface]) ∧ w'.ownsRow w.heap.size 5 1 (.slice a D.length c) D.length (byteCells D) ∧ Below w.heap.size w w' := by
  obtain ⟨h1, h2⟩ := h
  rcases h2 with ⟨-, v, he, ho⟩ | ⟨-, v, -, hn⟩
  · obtain ⟨a, c, rfl⟩ := own_slice ho
    exact ⟨a, c, he, ho, h1⟩
  · exact absurd rfl hn.iface.1
theorem ApEnd.no {D : List UInt8} {C : Int} {w w' : World} {e : Ending} (h : ApEnd (D, C) w e w') (hC : C ≠ 0) : ∃ t x, e = .returned (.tuple #[.slice none 0 0, .iface t x]) ∧ Below w.heap.size w w' := by
  obtain ⟨h1, h2⟩ := h
  rcases h2 with ⟨h0, -⟩ | ⟨-, v, he, hn⟩
  · exact absurd h0 hC
  · obtain ⟨-, t, x, rfl⟩ := hn.iface
    exact ⟨t, x, he, h1⟩
theorem findSome_snoc {α β : Type} (g : α → Option β) (pre : List α) (x : α) (h : ∀ y ∈ pre, g y = none) : (pre ++ [x]).findSome? g = g x := by
  rw [List.findSome?_append]
  have : pre.findSome? g = none := List.findSome?_eq_none_iff.2 h
  rw [this]
  simp
/-- What led answers. -/
def LedEnd (o : Option (List UInt8)) (w : World) (e : Ending) (w' : World) : Prop :=
  Below w.heap.size w w' ∧
    match o with
    | some t => ∃ v, e = .returned v ∧ w'.ownsRow w.heap.size 5 1 v t.length (byteCells t)
    | none => e = .returned (.slice none 0 0)

set_option maxRecDepth 100000 in
set_option maxHeartbeats 4000000 in
theorem led_any (r : Nat) (l : List Ent) (s p q k : Nat) (am : Addr) (n cm : Nat) (m : List UInt8) (G : Nat → Prop) (w : World) (zs : List (Item w)) (hM : MapAt w r l) (hZ : ItemsAt w.heap.size w w (valE s k l) zs) (hlen : zs.length ≤ 1000)
    (hm : BytesAt G w (.slice (some am) n cm) m) (hml : m.length ≤ 100000) (hp : p < 18446744073709551616) (hq : q < 18446744073709551616) :
    Calls Tryz.prog 99 #[.map (some r), dval s p q (.slice (some am) n cm), .int .i64 k] w (LedEnd (zs.findSome? fun x => ledOf s p q m x.1.2.2) w) := by
  obtain ⟨ao, cn, cc, hv⟩ : ∃ a n c, valE s k l = .slice a n c := by
    rcases hZ with ⟨h, _⟩ | ⟨b, off, cap, h, _⟩
    · exact ⟨_, _, _, h⟩
    · exact ⟨_, _, _, h⟩
  obtain ⟨WD, hWD⟩ : ∃ W, (w.alloc (.cells #[.int .u32 s, .int .u64 p, .int .u64 q, .slice (some am) n cm] 91)).alloc (.cells #[.slice none 0 0] 25) = W := ⟨_, rfl⟩
  have hbWD : Below w.heap.size w WD := by rw [← hWD]; exact ((Below.refl _ _).alloc (Nat.le_refl _) _).alloc (by simp) _
  have hszD : WD.heap.size = w.heap.size + 2 := by rw [← hWD]; simp
  have hMD : MapAt WD r l := by
    obtain ⟨es, clock, h1, h2⟩ := hM
    exact ⟨es, clock, (hbWD.block r (lt_of_block h1)).trans h1, h2⟩
  have hlk := run_look hMD s k
  unfold pk at hlk
  rw [hv] at hlk hZ
  have hdD : WD.heap[w.heap.size]? = some (.cells #[.int .u32 s, .int .u64 p, .int .u64 q, .slice (some am) n cm] 91 (0, 0)) := by rw [← hWD]; exact (Below.heap_alloc _ _ _ (by simp)).trans (heap_alloc_new w _)
  have hrD : Boxed WD (w.heap.size + 1) 25 (.slice none 0 0) := by rw [← hWD]; exact new_at (by simp)
  obtain ⟨d0, d1, d2, d3, -⟩ := blk_four hdD
  unfold dval
  refine (callsIn_wide (n := 3)).1 ?_
  refine callsIn_of_wp_marks Tryz.func99 rfl trivial ?_ rfl
  simp only [Tryz.ntmps99, List.size_toArray, List.length_cons, List.length_nil, Nat.reduceAdd, Nat.reduceSub, Array.replicate_succ, Array.replicate_zero, List.push_toArray, List.append_toArray, List.nil_append, List.cons_append]
  gi_wp2_with (refine ⟨trivial, ?_⟩; gi_at_call 164; refine (callsIn_wide.2 (backward_any _ _ _ _)).mono ?_; rintro e w' ⟨rfl, hw'⟩; subst hw')
  obtain ⟨W0, hW0⟩ : ∃ W, WD.alloc (.cells #[.slice ao cn cc] 35) = W := ⟨_, rfl⟩
  have hb0 : Below (w.heap.size + 2) WD W0 := by rw [← hW0, ← hszD]; exact (Below.refl _ _).alloc (Nat.le_refl _) _
  have hsz0 : W0.heap.size = w.heap.size + 3 := by rw [← hW0]; simp [hszD]
  have hx0 : W0.cell? ⟨w.heap.size + 2, 0, none⟩ = some (.slice ao cn cc) := by
    have h : W0.heap[w.heap.size + 2]? = some (.cells #[.slice ao cn cc] 35 (0, 0)) := by rw [← hW0]; exact new_at hszD.symm
    simp [World.cell?, h]
  have hbw0 : Below w.heap.size w W0 := hbWD.trans (hb0.mono (by omega))
  have hr0 : Boxed W0 (w.heap.size + 1) 25 (.slice none 0 0) := (hb0.block _ (by omega)).trans hrD
  have hd0 := (hb0.block w.heap.size (by omega)).trans hdD
  rw [hW0]
  have HC := hid (And.intro hbw0 (And.intro hm (And.intro hd0 hr0)))
  clear hlk hM hMD hdD hrD d0 d1 d2 d3 hb0 hWD hbWD hszD hm hW0 hd0
  have hro : Fence.wide.round = none := rfl
  refine wpIn_rangeFunc_ownF hro (by omega : 1 ≤ 3) (gf := 198) (lb := #[.pointer (some ⟨w.heap.size + 2, 0, none⟩)]) rfl trivial (enters_of Tryz.func198 (by kernel_rfl) rfl)
    (backward_stops Fence.wide (3 - 1) trivial rfl (by omega) (w.heap.size + 2) (w.heap.size + 3) (.slice ao cn cc) w zs hlen W0 (by omega) (by omega) hx0 ((ItemsAt.below hbw0 hZ).up (by omega)))
    belowK_t (belowK_b (by omega)) (Below.refl _ _) (fun _ => rfl)
    (fun pre W => (∀ x ∈ pre, ledOf s p q m x.1.2.2 = none) ∧ Below (w.heap.size + 3) W0 W)
    (fun c pre W => c = .ret ∧ ∃ t v, pre.findSome? (fun x => ledOf s p q m x.1.2.2) = some t ∧ Boxed W (w.heap.size + 1) 25 v ∧ W.ownsRow w.heap.size 5 1 v t.length (byteCells t) ∧ Below w.heap.size w W)
    (OwnFrom.and (ownFrom_pure _ _) (ownFrom_below (by omega) (by omega)))
    (fun c pre W W' row ⟨h1, t, v, h2, h3, h4, h5⟩ hg hr => ⟨h1, t, v, h2, h3.kept hg (fun e => by obtain ⟨hB, o, ho, hc⟩ := hr _ e.symm; rw [show W.heap[_]? = _ from h3] at ho; cases ho; cases hc), ownsRow_kept h4 hg (fun r e => (hr r e).2), h5.grown hg h5.size (fun k e => by have := (hr k e).1; omega)⟩)
    ⟨fun x hx => (by cases hx), Below.refl _ _⟩
    (fun x => { tmps := #[.map (some r), .agg #[.int .u32 s, .int .u64 p, .int .u64 q, .slice (some am) n cm], .int .i64 k, undef, .pointer (some ⟨w.heap.size, 0, none⟩), undef, .pointer (some ⟨w.heap.size + 1, 0, none⟩), undef, x.1.2.1, undef, undef, .map (some r), .pointer (some ⟨w.heap.size, 0, none⟩), .int .u32 s, .int .i64 k, .agg #[.int .u32 s, .int .i64 k], .slice ao cn cc, .func (.func 198) #[] #[.pointer (some ⟨w.heap.size + 2, 0, none⟩)], .int .i64 x.1.1, x.1.2.1, undef, undef, undef, undef, undef, undef, undef, undef, undef], defers := [] }) ?assign ?body ?done ?stop
  case assign =>
    intro l x W K hK
    gi_wp2
    exact hK
  case body =>
    rintro l pre ⟨⟨i0, c0, y0⟩, hx⟩ W ⟨hpre, hB⟩ hlt
    dsimp only at hx
    have hx' := hx
    obtain ⟨hne, hrow, hy5, hy4⟩ := hx'
    dsimp only
    have hbW : Below w.heap.size w W := hbw0.trans (hB.mono (by omega))
    have hszW : w.heap.size + 3 ≤ W.heap.size := by have := hB.size; omega
    obtain ⟨d0, d1, d2, d3, -⟩ := blk_four ((hB.block w.heap.size (by omega)).trans HC.out.2.2.1)
    have hres : Boxed W (w.heap.size + 1) 25 (.slice none 0 0) := (hB.block _ (by omega)).trans hr0
    have hrc := hres.cell
    have hrf := hres.frozen
    have HA := hid (dApply_any (U8 w) G c0 y0 m s p q am n cm W (BytesAt.below hrow hbW) (BytesAt.below HC.out.2.1 hbW) hy5 (by omega) hml hp hq)
    unfold dval at HA
    obtain ⟨⟨D, C⟩, hDC⟩ : ∃ r, Fr.applyIn y0 s p q m = r := ⟨_, rfl⟩
    rw [hDC] at HA
    have hled : ledOf s p q m y0 = if C = 0 then some D else none := by unfold ledOf Fr.okOf; rw [hDC]
    have HW := hid (And.intro hbW (And.intro hres hled))
    have HBB := hid (And.intro hB hpre)
    clear hrow hbW hres hDC hled hB
    by_cases hC : C = 0
    · subst hC
      gi_wp2_with (refine ⟨trivial, ?_⟩; gi_at_call 47; refine (CallsIn.inRound l (callsIn_wide.2 HA.out)).mono ?_; rintro e W1 h1; obtain ⟨a1, c1, rfl, ho1, hb1⟩ := h1.ok; have hr1 : Boxed W1 (w.heap.size + 1) 25 (.slice none 0 0) := (hb1.block _ (by omega)).trans HW.out.2.1; have hrc1 := hr1.cell; have hrf1 := hr1.frozen; have H1 := hid (And.intro ho1 (And.intro hb1 hr1)); clear ho1 hb1 hr1)
      have hbs : (W1.setCell ⟨w.heap.size + 1, 0, none⟩ (.slice a1 D.length c1)).heap[w.heap.size + 1]? = some (.cells #[.slice a1 D.length c1] 25 (0, 0)) := one_setD H1.out.2.2 _
      refine ⟨(keeps_below H1.out.2.1).trans (KeepsOthers.setCell _ _ _), rfl, D, _, ?_, hbs, ?_, (HW.out.1.trans (H1.out.2.1.mono HW.out.1.size)).setCell (by show w.heap.size ≤ w.heap.size + 1; omega) _⟩
      · rw [findSome_snoc _ _ _ HBB.out.2]
        show ledOf s p q m y0 = some D
        rw [HW.out.2.2]
        simp
      · refine ownsRow_setCell_other (own_mono H1.out.1 (by omega)) ?_ _
        intro e
        obtain ⟨hge, -⟩ := own_block H1.out.1 _ e
        dsimp only at hge
        omega
    · gi_wp2_with (refine ⟨trivial, ?_⟩; gi_at_call 47; refine (CallsIn.inRound l (callsIn_wide.2 HA.out)).mono ?_; rintro e W1 h1; obtain ⟨t1, x1, rfl, hb1⟩ := h1.no hC; have H1 := hid hb1; clear hb1)
      refine ⟨keeps_below H1.out, H1.out.mono (by omega), ?_, HBB.out.1.trans (H1.out.mono (by omega))⟩
      intro x hx
      rcases List.mem_append.1 hx with h | h
      · exact HBB.out.2 x h
      · obtain rfl := List.mem_singleton.1 h
        show ledOf s p q m y0 = none
        rw [HW.out.2.2, if_neg hC]
  case done =>
    rintro D ys W hD rfl ⟨hpre, hB⟩ hK
    have hres : Boxed W (w.heap.size + 1) 25 (.slice none 0 0) := (hB.block _ (by omega)).trans hr0
    have hrc := hres.cell
    have hrf := hres.frozen
    gi_wp2
    have hK' := (KeepsOthers.setCell W ⟨w.heap.size + 1, 0, none⟩ (.slice none 0 0)).same D _ hK rfl
    refine ⟨by simp, .inl ⟨_, _, rfl, run_takeDeferred hK', ?_⟩⟩
    have hc0 : (W.setCell ⟨w.heap.size + 1, 0, none⟩ (.slice none 0 0)).cell? ⟨w.heap.size + 1, 0, none⟩ = some (.slice none 0 0) := (one_cellD (one_setD hres _)).1
    have hc1 : ((W.setCell ⟨w.heap.size + 1, 0, none⟩ (.slice none 0 0)).putObj D (.deferred none)).cell? ⟨w.heap.size + 1, 0, none⟩ = some (.slice none 0 0) := cell_kept hc0 (grownBy_putObj' _ D (.deferred none)) (fun r e => by cases e; exact ⟨_, hK', rfl⟩)
    have hbW : Below w.heap.size w (W.setCell ⟨w.heap.size + 1, 0, none⟩ (.slice none 0 0)) := (hbw0.trans (hB.mono (by omega))).setCell (by show w.heap.size ≤ w.heap.size + 1; omega) _
    refine ⟨.slice none 0 0, by simp [results, Tryz.results99, go_sem, hc1], ?_⟩
    have hn : ys.findSome? (fun x => ledOf s p q m x.1.2.2) = none := List.findSome?_eq_none_iff.2 hpre
    rw [hn]
    exact ⟨hbW.trans (belowK_b (w := W0) (by omega) _ D _ _ hD hK' rfl rfl), rfl⟩
  case stop =>
    rintro D c pre W hD hpf ⟨rfl, t, v, ht, hbx, hown, hbel⟩ hK
    gi_wp2
    refine ⟨by simp, .inl ⟨_, _, rfl, run_takeDeferred hK, ?_⟩⟩
    have hc1 : (W.putObj D (.deferred none)).cell? ⟨w.heap.size + 1, 0, none⟩ = some v := cell_kept hbx.cell (grownBy_putObj' _ D (.deferred none)) (fun r e => by cases e; exact ⟨_, hK, rfl⟩)
    obtain ⟨av, cv, rfl⟩ := own_slice hown
    refine ⟨.slice av t.length cv, by simp [results, Tryz.results99, go_sem, hc1], ?_⟩
    obtain ⟨rest, hrest⟩ := hpf
    have hn : zs.findSome? (fun x => ledOf s p q m x.1.2.2) = some t := by
      rw [← hrest, List.findSome?_append, ht]
      rfl
    rw [hn]
    exact ⟨hbel.trans (belowK_b (w := W0) (by omega) _ D _ _ hD hK rfl rfl), _, rfl, ownsRow_kept hown (grownBy_putObj' _ D (.deferred none)) (fun r e => by cases e; exact ⟨_, hK, rfl⟩)⟩

end Go.Proofs.YtfldcmdhneegmabGreatDoor

/-
  package chain's WALK of keep's function literal; slices.DeleteFunc over it.
-/
namespace Go.Proofs.YtfldcmdhneegmabGreatDoor
open Go.RowKit Go.Lib Go.Shelf

def Tryz.delRen : Go.Shelf.Ren := ⟨fun | 6 => 165 | 10 => 100 | n => n, fun | 0 => 0 | 3 => 3 | 4 => 4 | 22 => 35 | 23 => 25 | 25 => 194 | n => n, fun | n => n⟩
theorem Tryz.delLays : Go.Proofs.SlLaysH.n10 Tryz.prog Tryz.delRen := {
  mixed := by kernel_rfl
  f6 := ⟨Tryz.f165.name, by kernel_rfl, Tryz.func165.trans (congrArg some (by kernel_rfl))⟩
  f10 := ⟨Tryz.f100.name, by kernel_rfl, Tryz.func100.trans (congrArg some (by kernel_rfl))⟩
  t0 := Tryz.underlying0
  a0 := Tryz.isAgg0
  z0 := Tryz.sizeOf0
  v0 := Tryz.zeroValue0
  t3 := Tryz.underlying3
  a3 := Tryz.isAgg3
  z3 := Tryz.sizeOf3
  v3 := Tryz.zeroValue3
  t4 := Tryz.underlying4
  a4 := Tryz.isAgg4
  z4 := Tryz.sizeOf4
  v4 := Tryz.zeroValue4
  t22 := Tryz.underlying35
  a22 := Tryz.isAgg35
  z22 := Tryz.sizeOf35
  v22 := Tryz.zeroValue35
  a23 := Tryz.isAgg25
  z23 := Tryz.sizeOf25
  t25 := Tryz.underlying194
  a25 := Tryz.isAgg194
  z25 := Tryz.sizeOf194
  v25 := Tryz.zeroValue194 }

theorem BytesAt.u8 {w W : World} {c : Value} {x : List UInt8} (h : BytesAt (U8 w) w c x) (hu : ∀ i, U8 w i → W.heap[i]? = w.heap[i]?) (hs : w.heap.size ≤ W.heap.size) : BytesAt (U8 w) W c x := by
  obtain ⟨hl, hr⟩ := h
  refine ⟨hl, ?_⟩
  rcases hr with h0 | ⟨b, o, cap, he, hFb, hb, hn, hc, r⟩
  · exact Or.inl h0
  · refine Or.inr ⟨b, o, cap, he, hFb, by omega, hn, hc, fun j u hj => ?_⟩
    rw [World.cell?_of_block (a := ⟨b, o + j, none⟩) (hu b hFb)]
    exact r j u hj
theorem run_nil_textB (W : World) : (convert 25 9 (.slice none 0 0)).run Tryz.prog W = .ok (.string ⟨#[]⟩) W := run_convert_bytes_nil W 25 5 Tryz.underlying25 Tryz.underlying5 0 0 9 Tryz.underlying9
set_option maxHeartbeats 1000000 in
theorem bEqual_nil (G : Nat → Prop) (u : Value) (m : List UInt8) (w : World) (h' : BytesAt G w u m) (hn' : u ≠ .slice none 0 0) :
    Calls Tryz.prog 102 #[.slice none 0 0, u] w fun e w' => e = .returned (.bool (decide ([] = m))) ∧ w' = w := by
  have h10 := run_nil_textB w
  have h20 := h'.text hn'
  clear h'
  go_enter Tryz.func102, Tryz.ntmps102
  go_wp2
  go_ret
  refine ⟨?_, rfl⟩
  cases m with
  | nil => simp
  | cons b t => simp

/-- What DeleteFunc may meet: a state that is kept, or the zero value. -/
abbrev DItem (w : World) := { x : Value × List UInt8 // (x.1 = .slice none 0 0 ∧ x.2 = []) ∨ StAt w x.1 x.2 }
def dEnc (w : World) (x : DItem w) : Value := x.1.1
theorem dEnc_slice (w : World) (x : DItem w) : ∃ a n c, dEnc w x = .slice a n c := by
  obtain ⟨⟨v, l⟩, h⟩ := x
  rcases h with ⟨h, _⟩ | ⟨hn, h, _⟩
  · exact ⟨_, _, _, h⟩
  · obtain ⟨a, n, c, h⟩ := BytesAt.isSlice h hn
    exact ⟨_, _, _, h⟩
theorem dEnc_one (w : World) : OneCell (dEnc w) := fun x => by
  obtain ⟨a, n, c, h⟩ := dEnc_slice w x
  rw [h]
  rfl

set_option maxHeartbeats 1000000 in
set_option maxRecDepth 100000 in
theorem keep1_any (w W : World) (x : DItem w) (sb : Nat) (cS : Value) (x0 : List UInt8) (hu : ∀ i, U8 w i → W.heap[i]? = w.heap[i]?) (hsz : w.heap.size ≤ W.heap.size) (hs : W.cell? ⟨sb, 0, none⟩ = some cS) (hS : StAt w cS x0) :
    Calls Tryz.prog 101 #[dEnc w x, .pointer (some ⟨sb, 0, none⟩)] W fun e w' => e = .returned (.bool (decide (x.1.2 = x0))) ∧ w' = W := by
  obtain ⟨hSn, hSb, hS5, -⟩ := hS
  have hSW := hSb.u8 hu hsz
  obtain ⟨a0, n0, c0, rfl⟩ := BytesAt.isSlice hSb hSn
  have HC : Hid (Calls Tryz.prog 102 #[dEnc w x, .slice (some a0) n0 c0] W fun e w' => e = .returned (.bool (decide (x.1.2 = x0))) ∧ w' = W) := by
    obtain ⟨⟨v, l⟩, h⟩ := x
    rcases h with ⟨h1, h2⟩ | ⟨h1, h2, h3, h4⟩
    · have h1' : v = .slice none 0 0 := h1
      have h2' : l = [] := h2
      subst h1' h2'
      exact bEqual_nil (U8 w) _ x0 W hSW hSn
    · exact bEqual_any (U8 w) (U8 w) v _ l x0 W (BytesAt.u8 h2 hu hsz) hSW h1 hSn
  obtain ⟨xa, xn, xc, hx⟩ := dEnc_slice w x
  rw [hx] at HC ⊢
  clear hu hSb hSW hS5
  go_enter Tryz.func101, Tryz.ntmps101
  go_wp2_with (go_at_call 102; refine HC.out.mono ?_; rintro e w1 ⟨rfl, hw⟩; subst hw)
  go_ret
  exact ⟨rfl, rfl⟩

end Go.Proofs.YtfldcmdhneegmabGreatDoor

/-
  package slices' DeleteFunc at the states that are kept.
-/
namespace Go.Proofs.YtfldcmdhneegmabGreatDoor
open Go.RowKit Go.Lib Go.Shelf

/-- A row of states that are kept: each beside its row of bytes. -/
def StsAt (base : Nat) (w : World) (v : Value) (ps : List (Value × List UInt8)) : Prop :=
  w.ownsRow base 25 1 v ps.length (ps.map (·.1)) ∧ ∀ p ∈ ps, StAt w p.1 p.2

theorem sortWorld_other {α : Type} [Inhabited α] (enc : α → Value) (w : World) (g n : Nat) (dk : Array α) (os : Array Obj) (i : Nat) (hi : i < w.heap.size) (hne : i ≠ g) : (sortWorld enc w g 0 n dk os).heap[i]? = w.heap[i]? := by
  have h1 : (Sort.putRow enc (Sort.ahead w n) g 0 dk).heap[i]? = w.heap[i]? := by
    show (w.heap.modify g _)[i]? = _
    rw [Array.getElem?_modify, if_neg (fun e => hne e.symm)]
  show ((Sort.putRow enc (Sort.ahead w n) g 0 dk).heap ++ os)[i]? = _
  rw [Array.getElem?_append_left (by rw [Sort.size_putRow]; exact hi)]
  exact h1
theorem sortWorld_size {α : Type} [Inhabited α] (enc : α → Value) (w : World) (g n : Nat) (dk : Array α) (os : Array Obj) : w.heap.size ≤ (sortWorld enc w g 0 n dk os).heap.size := by
  show w.heap.size ≤ ((Sort.putRow enc (Sort.ahead w n) g 0 dk).heap ++ os).size
  rw [Array.size_append, Sort.size_putRow]
  show w.heap.size ≤ w.heap.size + os.size
  omega

set_option maxHeartbeats 1000000 in
set_option maxRecDepth 100000 in
theorem indexB_nil (fv : Value) (w : World) :
    Calls Tryz.prog 165 #[.slice none 0 0, fv] w fun e w' => e = .returned (.int .i64 (-1)) ∧ w' = w := by
  go_enter Tryz.func165, Tryz.ntmps165
  go_wp2
  refine wp_loop_rounds 1 ?_
  rw [rounds_succ]
  go_wp2
  go_ret
  exact ⟨rfl, rfl⟩
set_option maxHeartbeats 1000000 in
set_option maxRecDepth 100000 in
theorem deleteB_nil (g : Nat) (lb : Array Value) (w : World) :
    Calls Tryz.prog 100 #[.slice none 0 0, .func (.func g) #[] lb] w fun e w' => e = .returned (.slice none 0 0) ∧ w' = w := by
  have HC := hid (fun W => indexB_nil (.func (.func g) #[] lb) W)
  go_enter Tryz.func100, Tryz.ntmps100
  go_wp2_with (go_at_call 165; refine (HC.out _).mono ?_; rintro e w1 ⟨rfl, hw⟩; subst hw)
  go_ret
  exact ⟨rfl, rfl⟩

/-- The states, as DeleteFunc meets them. -/
def dItems (w : World) (ps : List (Value × List UInt8)) (h : ∀ p ∈ ps, StAt w p.1 p.2) : List (DItem w) := ps.pmap (fun p hp => ⟨p, Or.inr hp⟩) h
theorem dItems_map (w : World) (ps : List (Value × List UInt8)) (h : ∀ p ∈ ps, StAt w p.1 p.2) : (dItems w ps h).map (·.1) = ps := by
  unfold dItems
  rw [List.map_pmap]
  simp
theorem dItems_len (w : World) (ps : List (Value × List UInt8)) (h : ∀ p ∈ ps, StAt w p.1 p.2) : (dItems w ps h).length = ps.length := by
  unfold dItems
  simp

set_option maxHeartbeats 1000000 in
set_option maxRecDepth 100000 in
theorem deleteB_any (base sb : Nat) (w : World) (v : Value) (ps : List (Value × List UInt8)) (hr : StsAt base w v ps) (cS : Value) (x0 : List UInt8) (hS : StAt w cS x0) (hs : w.cell? ⟨sb, 0, none⟩ = some cS) (hne : v.ownBlock ≠ some sb) :
    Calls Tryz.prog 100 #[v, .func (.func 101) #[] #[.pointer (some ⟨sb, 0, none⟩)]] w fun e w' => ∃ v', e = .returned v' ∧ w'.ownsRow base 25 1 v' (ps.filter fun p => !decide (p.2 = x0)).length ((ps.filter fun p => !decide (p.2 = x0)).map (·.1)) ∧ w.grownBy w' v.ownBlock ∧ v'.ownBlock = v.ownBlock ∧ w'.heap.size = w.heap.size := by
  letI : Inhabited (DItem w) := ⟨⟨(.slice none 0 0, []), Or.inl ⟨rfl, rfl⟩⟩⟩
  obtain ⟨hown, hst⟩ := hr
  rcases hown.2 with ⟨rfl, h0⟩ | ⟨g, cap, cur, rfl, hbase, hblk, hn, hmax, hcur, htake⟩
  · obtain rfl : ps = [] := List.eq_nil_of_length_eq_zero h0
    refine (deleteB_nil _ _ w).mono ?_
    rintro e w' ⟨rfl, rfl⟩
    exact ⟨_, rfl, World.ownsRow_nil _ _ _ _, ⟨rfl, rfl, rfl, Nat.le_refl _, fun _ _ _ => rfl⟩, rfl, rfl⟩
  · have hsg : sb ≠ g := fun e => hne (by rw [e]; rfl)
    have hu8 : ∀ i, U8 w i → i ≠ g := fun i hi e => by
      obtain ⟨c, fz, h⟩ := hi
      rw [e, hblk] at h
      cases h
    have hltu : ∀ i, U8 w i → i < w.heap.size := fun i ⟨c, fz, h⟩ => lt_of_block h
    have hsb : sb < w.heap.size := World.block_lt_of_cell? w ⟨sb, 0, none⟩ hs
    have hlen := dItems_len w ps hst
    have hmap := dItems_map w ps hst
    generalize dItems w ps hst = ds at hlen hmap
    have hcell : ∀ j (hj : j < ds.length), cur[j]? = some (dEnc w ds[j]) := fun j hj => by
      have h1 : cur.toList[j]? = (ps.map (·.1))[j]? := by
        rw [← htake, List.getElem?_take_of_lt (by omega)]
      rw [Array.getElem?_toList] at h1
      rw [h1, ← hmap]
      simp [hj, dEnc]
    have hH : Sort.Holds (dEnc w) w g 0 ds.toArray := fun j hj => by
      have hj' : j < ds.length := by simpa using hj
      have h2 : ds.toArray[j]! = ds[j] := by simp [hj']
      rw [h2]
      refine ⟨?_, ?_⟩
      · have := hcell j hj'
        simp [World.cell?, hblk, this]
      · simp [World.frozen?, hblk]
    have hp : PredAt Tryz.prog 101 #[.pointer (some ⟨sb, 0, none⟩)] (dEnc w) (fun x => decide (x.1.2 = x0)) w := fun W x hb =>
      (keep1_any w W x sb cS x0 (fun i hi => hb.block i (hltu i hi)) hb.size ((hb.cell (p := ⟨sb, 0, none⟩) hsb).trans hs) hS).mono fun e w' ⟨h1, h2⟩ => ⟨h1, 0, h2⟩
    have hpo : PredOver Tryz.prog 101 #[.pointer (some ⟨sb, 0, none⟩)] (dEnc w) (fun x => decide (x.1.2 = x0)) g 0 ds.toArray.size w := fun n os dk x hdk =>
      (keep1_any w _ x sb cS x0 (fun i hi => sortWorld_other _ w g n dk os i (hltu i hi) (hu8 i hi)) (sortWorld_size _ w g n dk os) ((World.cell?_of_block (a := ⟨sb, 0, none⟩) (sortWorld_other _ w g n dk os sb hsb hsg)).trans hs) hS).mono fun e w' ⟨h1, h2⟩ => ⟨h1, 0, h2⟩
    have hC := AnyE.slices_DeleteFunc Tryz.delLays (dEnc w) (dEnc_one w) (fun x => decide (x.1.2 = x0)) 101 #[.pointer (some ⟨sb, 0, none⟩)] (enters_of Tryz.func101 (by kernel_rfl) rfl) default Tryz.zeroValue25 g 0 cap ds.toArray w hp hpo hH (by simp; unfold maxLen at hmax; omega) (by simp; omega)
    have hsz2 : ds.toArray.size = ps.length := by simp [hlen]
    rw [hsz2] at hC
    refine Calls.mono hC ?_
    rintro e w' ⟨rfl, q, rfl⟩
    have hfm : (ds.filter fun x => !decide (x.1.2 = x0)).map (·.1) = ps.filter fun p => !decide (p.2 = x0) := by
      rw [← hmap, List.filter_map]
      rfl
    have hfl : (ds.filter fun x => !decide (x.1.2 = x0)).length ≤ ds.length := List.length_filter_le _ _
    simp only [] at *
    generalize hfs : (ds.filter fun x => !decide (x.1.2 = x0)) = fs at *
    have hfl2 : (ps.filter fun p => !decide (p.2 = x0)).length = fs.length := by rw [← hfm, List.length_map]
    have hfc : (ps.filter fun p => !decide (p.2 = x0)).map (·.1) = fs.map (dEnc w) := by rw [← hfm, List.map_map]; rfl
    have hdd : (fs ++ List.replicate (ps.length - fs.length) default).toArray.size = ps.length := by simp; omega
    have hb1 : (Sort.putRow (dEnc w) (Sort.ahead w q) g 0 (fs ++ List.replicate (ps.length - fs.length) default).toArray).heap[g]? = some (.cells (Sort.putCells (dEnc w) 0 (fs ++ List.replicate (ps.length - fs.length) default).toArray cur) 25 (0, 0)) := by
      show (w.heap.modify g _)[g]? = _
      rw [Array.getElem?_modify, if_pos rfl, hblk]
      rfl
    refine ⟨_, rfl, ?_, ?_, rfl, Sort.size_putRow _ _ _ _ _⟩
    · rw [hfl2, hfc]
      refine ⟨by simp, Or.inr ⟨g, cap, _, rfl, hbase, hb1, by omega, hmax, by rw [← hcur]; simp [Sort.putCells], ?_⟩⟩
      apply List.ext_getElem?
      intro j
      by_cases hj : j < fs.length
      · have hjc : j < cur.size := by omega
        have hjd : j < (fs ++ List.replicate (ps.length - fs.length) default).toArray.size := by omega
        have h3 : (fs ++ List.replicate (ps.length - fs.length) (default : DItem w)).toArray[j]! = fs[j] := by
          rw [getElem!_pos _ j hjd]
          simp [hj]
        rw [List.getElem?_take_of_lt (by omega), Array.getElem?_toList]
        have h4 : (Sort.putCells (dEnc w) 0 (fs ++ List.replicate (ps.length - fs.length) default).toArray cur)[j]? = some (dEnc w fs[j]) := by
          unfold Sort.putCells
          rw [Array.getElem?_mapIdx, Array.getElem?_eq_getElem hjc]
          simp only [Option.map_some]
          rw [if_pos ⟨Nat.zero_le _, by omega⟩, Nat.sub_zero, h3]
        rw [h4]
        simp [hj]
      · rw [List.getElem?_eq_none (by rw [List.length_take]; omega), List.getElem?_eq_none (by simp; omega)]
    · refine ⟨rfl, rfl, rfl, by rw [Sort.size_putRow]; exact Nat.le_refl _, fun i hi hne' => ?_⟩
      show (w.heap.modify g _)[i]? = _
      rw [Array.getElem?_modify, if_neg (fun e => hne' (by rw [e]; rfl))]

end Go.Proofs.YtfldcmdhneegmabGreatDoor

/-
  A MAP WHOSE KEYS ARE PLACES: storing; what is kept, whole.
-/
namespace Go.Proofs.YtfldcmdhneegmabGreatDoor
open Go.RowKit Go.Lib Go.Shelf

def getE (s k : Nat) : List Ent → Option Value
  | [] => none
  | e :: r => if s = e.1 ∧ k = e.2.1 then some e.2.2 else getE s k r
def putE (s k : Nat) (v : Value) : List Ent → List Ent
  | [] => [(s, k, v)]
  | e :: r => if s = e.1 ∧ k = e.2.1 then (s, k, v) :: r else e :: putE s k v r
theorem findE_get (s k : Nat) : ∀ (l : List Ent) (i : Nat), (findE s k l i).map (·.2) = getE s k l := by
  intro l
  induction l with
  | nil => intro i; rfl
  | cons e r ih =>
    intro i
    unfold findE getE
    split
    · rfl
    · exact ih (i + 1)
theorem valE_get (s k : Nat) (l : List Ent) : valE s k l = (getE s k l).getD (.slice none 0 0) := by
  unfold valE
  rw [findE_get]
theorem getE_put (s k : Nat) (v : Value) : ∀ (l : List Ent) (s' k' : Nat), getE s' k' (putE s k v l) = if s' = s ∧ k' = k then some v else getE s' k' l := by
  intro l
  induction l with
  | nil =>
    intro s' k'
    simp [putE, getE]
  | cons e r ih =>
    intro s' k'
    unfold putE
    split
    · rename_i h
      unfold getE
      by_cases h1 : s' = s ∧ k' = k
      · simp [h1]
      · rw [if_neg h1]
        simp only [h1, if_false]
        rw [if_neg (by rw [← h.1, ← h.2]; exact h1)]
    · rename_i h
      unfold getE
      rw [ih]
      by_cases h1 : s' = s ∧ k' = k
      · rw [if_pos h1, if_pos h1, if_neg (by rw [h1.1, h1.2]; exact h)]
      · rw [if_neg h1, if_neg h1]
theorem valE_put (s k : Nat) (v : Value) (l : List Ent) : valE s k (putE s k v l) = v := by rw [valE_get, getE_put, if_pos ⟨rfl, rfl⟩]; rfl
theorem valE_other (s k : Nat) (v : Value) (l : List Ent) {s' k' : Nat} (h : ¬ (s' = s ∧ k' = k)) : valE s' k' (putE s k v l) = valE s' k' l := by rw [valE_get, valE_get, getE_put, if_neg h]
theorem findE_some (s k : Nat) (v : Value) : ∀ (l : List Ent) (j i : Nat) (v0 : Value), findE s k l j = some (i, v0) → j ≤ i ∧ i - j < l.length ∧ putE s k v l = l.set (i - j) (s, k, v) ∧ (∀ e, l[i - j]? = some e → e.1 = s ∧ e.2.1 = k) := by
  intro l
  induction l with
  | nil => intro j i v0 h; cases h
  | cons e r ih =>
    intro j i v0 h
    unfold findE at h
    split at h
    · rename_i hk
      cases h
      refine ⟨Nat.le_refl _, by simp, ?_, ?_⟩
      · unfold putE
        rw [if_pos hk, Nat.sub_self]
        rfl
      · intro e' he
        rw [Nat.sub_self] at he
        simp at he
        subst he
        exact ⟨hk.1.symm, hk.2.symm⟩
    · rename_i hk
      obtain ⟨h1, h2, h3, h4⟩ := ih (j + 1) i v0 h
      have e1 : i - j = (i - (j + 1)) + 1 := by omega
      refine ⟨by omega, by simp; omega, ?_, ?_⟩
      · unfold putE
        rw [if_neg hk, h3, e1, List.set_cons_succ]
      · intro e' he
        rw [e1] at he
        simp at he
        exact h4 e' he
theorem findE_none (s k : Nat) (v : Value) : ∀ (l : List Ent) (j : Nat), findE s k l j = none → putE s k v l = l ++ [(s, k, v)] := by
  intro l
  induction l with
  | nil => intro j _; rfl
  | cons e r ih =>
    intro j h
    unfold findE at h
    split at h
    · cases h
    · rename_i hk
      unfold putE
      rw [if_neg hk, ih (j + 1) h]
      rfl
theorem Tryz.stays (s k : Nat) (w : World) : (Instr.keyThatStays (pk s k) (pk s k)).run Tryz.prog w = .ok (pk s k) w := by
  unfold Instr.keyThatStays
  have : Instr.sameBits 10000 (pk s k) (pk s k) = true := by simp [Instr.sameBits, pk]
  rw [this]
  rfl
theorem run_put {w : World} {r : Nat} {l : List Ent} (h : MapAt w r l) (s k : Nat) (v : Value) : ∃ w', (Instr.mapUpdate 112 (.map (some r)) (pk s k) v).run Tryz.prog w = .ok () w' ∧ MapAt w' r (putE s k v l) ∧ w.grownBy w' (some r) ∧ w'.heap.size = w.heap.size := by
  obtain ⟨es, clock, hb, he⟩ := h
  have hlt := lt_of_block hb
  have hg : ∀ o : Obj, w.grownBy { w with heap := w.heap.setIfInBounds r o } (some r) := fun o => ⟨rfl, rfl, rfl, by simp, fun i hi hne => by
    show (w.heap.setIfInBounds r o)[i]? = w.heap[i]?
    rw [Array.getElem?_setIfInBounds_ne (fun e => hne (by rw [e]))]⟩
  have hn : ∀ o : Obj, (w.heap.setIfInBounds r o)[r]? = some o := fun o => by simp [hlt]
  have hfk := findKey_place s k w l _ he
  obtain ⟨bs, hbl, hes⟩ := he
  cases hf : findE s k l 0 with
  | none =>
    refine ⟨{ w with heap := w.heap.setIfInBounds r (.map (es.push { key := pk s k, val := v, born := clock }) (clock + 1)) }, ?_, ⟨_, _, hn _, ?_⟩, hg _, by simp⟩
    · unfold Instr.mapUpdate
      simp only [Sem.run_bind, run_underlying Tryz.underlying112, Result.andThen, MapKept.run_getObj_map hb, Tryz.checkPlace, hfk, hf, MapKept.run_setObj_map _ hb]
    · rw [findE_none s k v l 0 hf]
      refine ⟨bs ++ [clock], by simp [hbl], ?_⟩
      rw [Array.toList_push, hes, List.zip_append hbl.symm]
      simp [entOf]
  | some x =>
    obtain ⟨i, v0⟩ := x
    obtain ⟨-, h2, h3, h4⟩ := findE_some s k v l 0 i v0 hf
    rw [Nat.sub_zero] at h2 h3 h4
    have hik : es[i]? = some (entOf l[i] (bs[i]'(by omega))) := by
      rw [← Array.getElem?_toList, hes]
      simp [h2, hbl]
    obtain ⟨k1, k2⟩ := h4 l[i] (List.getElem?_eq_getElem h2)
    have hkey : ((es[i]?).map (·.key)).getD (pk s k) = pk s k := by
      rw [hik]
      show pk l[i].1 l[i].2.1 = pk s k
      rw [k1, k2]
    refine ⟨{ w with heap := w.heap.setIfInBounds r (.map (es.modify i fun e => { e with key := pk s k, val := v }) clock) }, ?_, ⟨_, _, hn _, ?_⟩, hg _, by simp⟩
    · unfold Instr.mapUpdate
      simp only [Sem.run_bind, run_underlying Tryz.underlying112, Result.andThen, MapKept.run_getObj_map hb, Tryz.checkPlace, hfk, hf, hkey, Tryz.stays, MapKept.run_setObj_map _ hb]
    · rw [h3]
      refine ⟨bs, by simp [hbl], ?_⟩
      apply List.ext_getElem?
      intro j
      rw [Array.getElem?_toList, Array.getElem?_modify]
      by_cases hij : i = j
      · subst hij
        rw [if_pos rfl, hik]
        simp [entOf, h2, hbl]
      · rw [if_neg hij, ← Array.getElem?_toList, hes]
        simp only [List.getElem?_map, List.zip, List.getElem?_zipWith]
        rw [List.getElem?_set_ne hij]

theorem StAt.on {w w' : World} {c : Value} {x : List UInt8} (h : StAt w c x) (hu : ∀ i, U8 w i → w'.heap[i]? = w.heap[i]?) (hs : w.heap.size ≤ w'.heap.size) : StAt w' c x := by
  obtain ⟨h1, h2, h3, h4⟩ := h
  refine ⟨h1, ?_, h3, h4⟩
  have := BytesAt.u8 h2 hu hs
  exact RowAt.mono this (fun i _ hi => by obtain ⟨c, fz, hb⟩ := hi; exact ⟨c, fz, (hu i ⟨c, fz, hb⟩).trans hb⟩)
theorem StAt.below {w w' : World} {c : Value} {x : List UInt8} (h : StAt w c x) (hb : Below w.heap.size w w') : StAt w' c x := h.on (fun i ⟨_, _, hi⟩ => hb.block i (lt_of_block hi)) hb.size
theorem StAt.grown {w w' : World} {c : Value} {x : List UInt8} {g : Option Nat} (h : StAt w c x) (hg : w.grownBy w' g) (hn : ∀ i, g = some i → ¬ U8 w i) : StAt w' c x :=
  h.on (fun i hi => hg.block i (by obtain ⟨_, _, hb⟩ := hi; exact lt_of_block hb) (fun e => hn i e.symm hi)) hg.size

/-- What is kept: at each place a row of states; no two rows lie in one block. -/
def KeepAt (base : Nat) (w : World) (r : Nat) (M : Nat → Nat → List (Value × List UInt8)) : Prop :=
  ∃ l : List Ent, MapAt w r l ∧ (∀ s k, StsAt base w (valE s k l) (M s k)) ∧ (∀ s k s' k', ¬ (s' = s ∧ k' = k) → (valE s k l).ownBlock = none ∨ (valE s k l).ownBlock ≠ (valE s' k' l).ownBlock)
theorem MapAt.on {w w' : World} {r : Nat} {l : List Ent} (h : MapAt w r l) (hb : w'.heap[r]? = w.heap[r]?) : MapAt w' r l := by
  obtain ⟨es, clock, h1, h2⟩ := h
  exact ⟨es, clock, hb.trans h1, h2⟩
theorem MapAt.lt {w : World} {r : Nat} {l : List Ent} (h : MapAt w r l) : r < w.heap.size := by
  obtain ⟨es, clock, h1, h2⟩ := h
  exact lt_of_block h1
theorem StsAt.below {base : Nat} {w w' : World} {v : Value} {ps : List (Value × List UInt8)} (h : StsAt base w v ps) (hb : Below w.heap.size w w') : StsAt base w' v ps := ⟨own_below h.1 hb, fun p hp => (h.2 p hp).below hb⟩
theorem KeepAt.below {base : Nat} {w w' : World} {r : Nat} {M : Nat → Nat → List (Value × List UInt8)} (h : KeepAt base w r M) (hb : Below w.heap.size w w') : KeepAt base w' r M := by
  obtain ⟨l, h1, h2, h3⟩ := h
  exact ⟨l, h1.on (hb.block r h1.lt), fun s k => (h2 s k).below hb, h3⟩
/-- At one place another row. -/
def updM (M : Nat → Nat → List (Value × List UInt8)) (s k : Nat) (ps : List (Value × List UInt8)) : Nat → Nat → List (Value × List UInt8) := fun s' k' => if s' = s ∧ k' = k then ps else M s' k'
theorem own_grown_other {w w' : World} {base : Nat} {e : TypeId} {size : Nat} {v : Value} {n : Nat} {xs : List Value} {g : Option Nat} (h : w.ownsRow base e size v n xs) (hg : w.grownBy w' g) (hne : v.ownBlock = none ∨ v.ownBlock ≠ g) : w'.ownsRow base e size v n xs := by
  refine ⟨h.1, ?_⟩
  rcases h.2 with h2 | ⟨b, cap, cur, hv, hb, hh, r⟩
  · exact Or.inl h2
  · refine Or.inr ⟨b, cap, cur, hv, hb, ?_, r⟩
    rw [hg.block b (lt_of_block hh) (fun e => by subst hv; rcases hne with h | h; (cases h); exact h e)]
    exact hh
theorem KeepAt.put {base : Nat} {w w1 w2 w3 : World} {r : Nat} {M : Nat → Nat → List (Value × List UInt8)} {l : List Ent} (h1 : MapAt w r l) (h2 : ∀ s k, StsAt base w (valE s k l) (M s k)) (h3 : ∀ s k s' k', ¬ (s' = s ∧ k' = k) → (valE s k l).ownBlock = none ∨ (valE s k l).ownBlock ≠ (valE s' k' l).ownBlock)
    {s k : Nat} (hg1 : w.grownBy w1 (valE s k l).ownBlock) (hg2 : w1.grownBy w2 (valE s k l).ownBlock) {v : Value} {ps : List (Value × List UInt8)} (hown : w2.ownsRow base 25 1 v ps.length (ps.map (·.1))) (hps : ∀ p ∈ ps, StAt w p.1 p.2) (hv : v.ownBlock = (valE s k l).ownBlock ∨ ∃ g, v.ownBlock = some g ∧ w.heap.size ≤ g)
    (hm : MapAt w3 r (putE s k v l)) (hg3 : w2.grownBy w3 (some r)) : KeepAt base w3 r (updM M s k ps) := by
  have hr : ∀ i c t fz, w.heap[i]? = some (.cells c t fz) → i ≠ r := fun i c t fz hi e => by
    obtain ⟨es, clock, hb, -⟩ := h1
    rw [e, hb] at hi
    cases hi
  have hu : ∀ i, U8 w i → ∀ b, (valE s k l).ownBlock = some b → i ≠ b := fun i ⟨c, fz, hi⟩ b hb e => by
    obtain ⟨-, c', fz', h⟩ := own_block (h2 s k).1 b hb
    rw [← e, hi] at h
    cases h
  have hg12 : w.grownBy w2 (valE s k l).ownBlock := ⟨hg2.os.trans hg1.os, hg2.tape.trans hg1.tape, hg2.output.trans hg1.output, Nat.le_trans hg1.size hg2.size, fun i hi hne => (hg2.block i (Nat.lt_of_lt_of_le hi hg1.size) hne).trans (hg1.block i hi hne)⟩
  have hst : ∀ c x, StAt w c x → StAt w3 c x := fun c x hx => by
    refine hx.on (fun i hi => ?_) (Nat.le_trans hg12.size hg3.size)
    obtain ⟨c', fz, hb⟩ := hi
    have hlt := lt_of_block hb
    rw [hg3.block i (Nat.lt_of_lt_of_le hlt hg12.size) (by intro e; injection e with e; exact hr i c' _ fz hb e)]
    exact hg12.block i hlt (fun e => hu i ⟨c', fz, hb⟩ i e.symm rfl)
  have hro : ∀ b, ∀ c e fz, w2.heap[b]? = some (.cells c e fz) → b ≠ r := fun b c e fz hb he => by
    obtain ⟨es, clock, hb', -⟩ := h1
    have hlt := lt_of_block hb'
    have : w2.heap[r]? = some (.map es clock) := (hg12.block r hlt (fun e => by
      obtain ⟨-, c', fz', h⟩ := own_block (h2 s k).1 r e.symm
      rw [hb'] at h
      cases h)).trans hb'
    rw [he, this] at hb
    cases hb
  refine ⟨putE s k v l, hm, fun s' k' => ?_, fun s1 k1 s2 k2 hne => ?_⟩
  · unfold updM
    by_cases he : s' = s ∧ k' = k
    · rw [if_pos he, he.1, he.2, valE_put]
      refine ⟨own_grown_other hown hg3 ?_, fun p hp => hst _ _ (hps p hp)⟩
      cases hvb : v.ownBlock with
      | none => exact Or.inl rfl
      | some b =>
        right
        obtain ⟨-, c, fz, hb⟩ := own_block hown b hvb
        intro e
        injection e with e
        exact hro b c _ fz hb e
    · rw [if_neg he, valE_other s k v l he]
      have ho := own_grown_other (h2 s' k').1 hg12 (h3 s' k' s k (fun h => he ⟨h.1.symm, h.2.symm⟩))
      refine ⟨own_grown_other ho hg3 ?_, fun p hp => hst _ _ ((h2 s' k').2 p hp)⟩
      cases hvb : (valE s' k' l).ownBlock with
      | none => exact Or.inl rfl
      | some b =>
        right
        obtain ⟨-, c, fz, hb⟩ := own_block ho b hvb
        intro e
        injection e with e
        exact hro b c _ fz hb e
  · have hnew : ∀ s' k', ¬ (s' = s ∧ k' = k) → v.ownBlock = none ∨ v.ownBlock ≠ (valE s' k' l).ownBlock := fun s' k' he => by
      rcases hv with hv | ⟨g, hg, hge⟩
      · rw [hv]
        exact h3 s k s' k' he
      · right
        intro e
        rw [hg] at e
        obtain ⟨-, c, fz, hb⟩ := own_block (h2 s' k').1 g e.symm
        have := lt_of_block hb
        omega
    by_cases e1 : s1 = s ∧ k1 = k
    · have e2 : ¬ (s2 = s ∧ k2 = k) := fun h => hne ⟨h.1.trans e1.1.symm, h.2.trans e1.2.symm⟩
      rw [e1.1, e1.2, valE_put, valE_other s k v l e2]
      exact hnew s2 k2 e2
    · rw [valE_other s k v l e1]
      by_cases e2 : s2 = s ∧ k2 = k
      · rw [e2.1, e2.2, valE_put]
        rcases hnew s1 k1 e1 with h | h
        · cases hb : (valE s1 k1 l).ownBlock with
          | none => exact Or.inl rfl
          | some b => right; rw [h]; intro e; cases e
        · exact Or.inr (fun e => h e.symm)
      · rw [valE_other s k v l e2]
        exact h3 s1 k1 s2 k2 hne

end Go.Proofs.YtfldcmdhneegmabGreatDoor

/-
  package chain's WALK of keep.
-/
namespace Go.Proofs.YtfldcmdhneegmabGreatDoor
open Go.RowKit Go.Lib Go.Shelf

/-- Blocks of cells that are no rows of rows lie as they lay. -/
def KeepsT (w w' : World) : Prop := w.heap.size ≤ w'.heap.size ∧ ∀ (i : Nat) (c : Array Value) (t : TypeId) (fz : Nat × Nat), w.heap[i]? = some (.cells c t fz) → t ≠ 25 → w'.heap[i]? = w.heap[i]?
theorem KeepsT.refl (w : World) : KeepsT w w := ⟨Nat.le_refl _, fun _ _ _ _ _ _ => rfl⟩
theorem KeepsT.trans {a b c : World} (h : KeepsT a b) (h' : KeepsT b c) : KeepsT a c := ⟨Nat.le_trans h.1 h'.1, fun i cc t fz hi ht => (h'.2 i cc t fz ((h.2 i cc t fz hi ht).trans hi) ht).trans (h.2 i cc t fz hi ht)⟩
theorem KeepsT.below {w w' : World} (h : Below w.heap.size w w') : KeepsT w w' := ⟨h.size, fun i _ _ _ hi _ => h.block i (lt_of_block hi)⟩
theorem KeepsT.grown {w w' : World} {g : Option Nat} (h : w.grownBy w' g) (hg : ∀ b, g = some b → ∀ (c : Array Value) (t : TypeId) (fz : Nat × Nat), w.heap[b]? = some (.cells c t fz) → t = 25) : KeepsT w w' := ⟨h.size, fun i c t fz hi ht => h.block i (lt_of_block hi) (fun e => ht (hg i e.symm c t fz hi))⟩
theorem KeepsT.st {w w' : World} (h : KeepsT w w') {c : Value} {x : List UInt8} (hs : StAt w c x) : StAt w' c x := hs.on (fun i ⟨c, fz, hi⟩ => h.2 i c _ fz hi (by decide)) h.1

theorem grown_allocD {w w' : World} {o : Obj} {x : Option Nat} (h : (w.alloc o).drew.grownBy w' x) : w.grownBy w' x :=
  ⟨h.os, h.tape, h.output, Nat.le_trans (by simp) h.size, fun k hk hne => (h.block k (by simp; omega) hne).trans (Below.heap_alloc _ _ _ hk)⟩
/-- A place's row with one state more, which was taken out ahead. -/
def keepRow (ps : List (Value × List UInt8)) (c : Value) (x : List UInt8) : List (Value × List UInt8) := (ps.filter fun p => !decide (p.2 = x)) ++ [(c, x)]
/-- What is kept, once the states within 0, .., k - 1 deltas are. -/
def keepM (M : Nat → Nat → List (Value × List UInt8)) (fo : Nat → Option (Value × List UInt8)) : Nat → Nat → Nat → List (Value × List UInt8)
  | 0 => M
  | k + 1 => match fo k with
    | none => keepM M fo k
    | some (c, x) => updM (keepM M fo k) (Fr.val (Fr.last4 x)) k (keepRow (keepM M fo k (Fr.val (Fr.last4 x)) k) c x)
def cellO (o : Option (Value × List UInt8)) : Value := match o with
  | none => .slice none 0 0
  | some (c, _) => c
theorem Tryz.infoRowB : (Tryz.prog.info? 25).map (fun i => (i.zero, i.size, i.bytes)) = some (some (.slice none 0 0), 1, 24) := by kernel_rfl
theorem Tryz.indexStates (c0 c1 c2 c3 c4 : Value) (k : Nat) (hk : k < 5) (W : World) : (Instr.index 114 (.agg #[c0, c1, c2, c3, c4]) (.int .i64 k)).run Tryz.prog W = .ok (if k = 0 then c0 else if k = 1 then c1 else if k = 2 then c2 else if k = 3 then c3 else c4) W := by
  rcases (by omega : k = 0 ∨ k = 1 ∨ k = 2 ∨ k = 3 ∨ k = 4) with rfl | rfl | rfl | rfl | rfl <;> kernel_rfl

set_option maxHeartbeats 4000000 in
set_option maxRecDepth 1000000 in
theorem keep_any (base r : Nat) (M : Nat → Nat → List (Value × List UInt8)) (fo : Nat → Option (Value × List UInt8)) (w : World) (hK : KeepAt base w r M) (hbr : base ≤ r) (hbw : base ≤ w.heap.size) (hfo : ∀ k c x, k < 5 → fo k = some (c, x) → StAt w c x) (hlen : ∀ k s n, k ≤ 5 → (keepM M fo k s n).length ≤ 1000) :
    Calls Tryz.prog 49 #[.map (some r), .agg #[cellO (fo 0), cellO (fo 1), cellO (fo 2), cellO (fo 3), cellO (fo 4)]] w fun e w' => e = .returned (.tuple #[]) ∧ KeepAt base w' r (keepM M fo 5) ∧ KeepsT w w' ∧ Below base w w' := by
  have hsl : ∀ k, k < 5 → ∃ a n c, cellO (fo k) = .slice a n c := fun k hk => by
    cases hf : fo k with
    | none => exact ⟨_, _, _, rfl⟩
    | some y =>
      obtain ⟨c, x⟩ := y
      obtain ⟨h1, h2, -⟩ := hfo k c x hk hf
      obtain ⟨a, n, cc, h⟩ := BytesAt.isSlice h2 h1
      exact ⟨_, _, _, h⟩
  obtain ⟨a0, n0, q0, h0⟩ := hsl 0 (by omega)
  obtain ⟨a1, n1, q1, h1⟩ := hsl 1 (by omega)
  obtain ⟨a2, n2, q2, h2⟩ := hsl 2 (by omega)
  obtain ⟨a3, n3, q3, h3⟩ := hsl 3 (by omega)
  obtain ⟨a4, n4, q4, h4⟩ := hsl 4 (by omega)
  have hix : ∀ (k : Nat) (W : World), k < 5 → (Instr.index 114 (.agg #[.slice a0 n0 q0, .slice a1 n1 q1, .slice a2 n2 q2, .slice a3 n3 q3, .slice a4 n4 q4]) (.int .i64 k)).run Tryz.prog W = .ok (cellO (fo k)) W := fun k W hk => by
    rw [Tryz.indexStates _ _ _ _ _ k hk W]
    rcases (by omega : k = 0 ∨ k = 1 ∨ k = 2 ∨ k = 3 ∨ k = 4) with rfl | rfl | rfl | rfl | rfl
    · rw [h0]; rfl
    · rw [h1]; rfl
    · rw [h2]; rfl
    · rw [h3]; rfl
    · rw [h4]; rfl
  rw [h0, h1, h2, h3, h4]
  have HI := hid (And.intro hix (And.intro hfo hK))
  clear hix hfo hK h0 h1 h2 h3 h4 hsl
  go_enter Tryz.func49, Tryz.ntmps49
  go_wp2
  go_loopw [9] (fun i wr => ∃ k : Nat, k ≤ 5 ∧ i = .int .i64 k ∧ Hid (KeepAt base wr r (keepM M fo k) ∧ KeepsT w wr ∧ Below base w wr)) (fun i _ => 5 - (intOf i).toNat)
  case atStart => exact ⟨0, by omega, rfl, HI.out.2.2.below ((Below.refl _ _).alloc (Nat.le_refl _) _), KeepsT.below ((Below.refl _ _).alloc (Nat.le_refl _) _), (Below.refl _ _).alloc hbw _⟩
  case round =>
    obtain ⟨k, hk, rfl, hr⟩ := hrel
    by_cases hk5 : k < 5
    · have hk5' : (k : Int) < 5 := by omega
      have hx := fun W => HI.out.1 k W hk5
      cases hf : fo k with
      | none =>
        rw [hf] at hx
        have HF := hid hf
        clear hf
        simp only [cellO] at hx
        have hnil : ∀ W, (binOp .eql 25 (.slice none 0 0) (.slice none 0 0)).run Tryz.prog W = .ok (.bool true) W := fun W => Lib.run_eql_slice_nil W _ _ none _ _ _ _ Tryz.underlying25
        go_wp2
        have hb1 : Below wr.heap.size wr (wr.alloc (.cells #[.slice none 0 0] 25)) := (Below.refl _ _).alloc (Nat.le_refl _) _
        refine ⟨⟨k + 1, by omega, by go_num, ?_, hr.out.2.1.trans (KeepsT.below hb1), hr.out.2.2.trans (hb1.mono (Nat.le_trans hbw hr.out.2.2.size))⟩, by simp [intOf]; omega⟩
        have e1 : keepM M fo (k + 1) = keepM M fo k := by
          show (match fo k with | none => keepM M fo k | some (c, x) => _) = _
          rw [HF.out]
        rw [e1]
        exact hr.out.1.below hb1
      | some y =>
        obtain ⟨c, x⟩ := y
        have hstr : StAt wr c x := hr.out.2.1.st (HI.out.2.1 k c x hk5 hf)
        obtain ⟨ca, cn, cc, rfl⟩ := BytesAt.isSlice hstr.2.1 hstr.1
        rw [hf] at hx
        simp only [cellO] at hx
        obtain ⟨l, hM, hSts, hdis⟩ := hr.out.1
        obtain ⟨S, hS⟩ : ∃ S, Fr.val (Fr.last4 x) = S := ⟨_, rfl⟩
        have hS' : Fr.val (x.drop (x.length - 4)) = S := hS
        obtain ⟨va, vc, hv⟩ := own_slice (hSts S k).1
        obtain ⟨ps, hps⟩ : ∃ ps, keepM M fo k S k = ps := ⟨_, rfl⟩
        have hlp := hlen k S k hk
        rw [hps] at hv hlp
        obtain ⟨W1, hW1⟩ : ∃ W, (wr.alloc (.cells #[.slice (some ca) cn cc] 25)).alloc (.cells #[.int .u32 S, .int .i64 k] 191) = W := ⟨_, rfl⟩
        have hb1 : Below wr.heap.size wr W1 := by rw [← hW1]; exact ((Below.refl _ _).alloc (Nat.le_refl _) _).alloc (by simp) _
        have hsz1 : W1.heap.size = wr.heap.size + 2 := by rw [← hW1]; simp
        have k5 : W1.heap[wr.heap.size]? = some (.cells #[.slice (some ca) cn cc] 25 (0, 0)) := by rw [← hW1]; exact (Below.heap_alloc _ _ _ (by simp)).trans (heap_alloc_new wr _)
        have k6 : W1.heap[wr.heap.size + 1]? = some (.cells #[.int .u32 S, .int .i64 k] 191 (0, 0)) := by rw [← hW1]; exact new_at (by simp)
        have c5 := (one_cellD k5).1
        obtain ⟨c60, c61, -, -⟩ := res_two k6
        have hM1 := hM.on (hb1.block r hM.lt)
        have hlk := run_look hM1 S k
        unfold pk at hlk
        rw [hv] at hlk
        have hSts1 : StsAt base W1 (.slice va ps.length vc) ps := by
          have := (hSts S k).below hb1
          rw [hv, hps] at this
          exact this
        have hownlt : ∀ b, (Value.slice va ps.length vc).ownBlock = some b → b < wr.heap.size := fun b hb => by
          have h := (hSts S k).1
          rw [hv] at h
          obtain ⟨-, c', fz', h'⟩ := own_block h b hb
          exact lt_of_block h'
        have HSum := hid (fun o => fSumOf_any (U8 wr) _ x (wr.alloc o) (hstr.2.1.below ((Below.refl _ _).alloc (Nat.le_refl _) _)) (by have := hstr.2.2.1; omega) (by have := hstr.2.2.2; omega))
        have HD := hid (deleteB_any base wr.heap.size W1 (.slice va ps.length vc) ps hSts1 (.slice (some ca) cn cc) x (hstr.below hb1) c5 (fun e => Nat.lt_irrefl _ (hownlt _ e)))
        have hnil : ∀ W, (binOp .eql 25 (.slice (some ca) cn cc) (.slice none 0 0)).run Tryz.prog W = .ok (.bool false) W := fun W => Lib.run_eql_slice_nil W _ _ (some ca) _ _ _ _ Tryz.underlying25
        have hmf : ∀ (fn : Fn) (first cap : Array Value) (w : World), (Instr.makeFunc fn first cap).run Tryz.prog w = .ok (.func fn first cap) w := fun _ _ _ _ => rfl
        have HX := hid (And.intro hf (And.intro hstr (And.intro hM (And.intro hSts (And.intro hdis (And.intro hv (And.intro hps (And.intro hS (And.intro hb1 (And.intro k5 k6))))))))))
        have HL := hid hownlt
        rw [hS'] at HSum
        clear hf hstr hM hSts hdis hv hps hS hb1 k5 k6 hM1 hSts1 hownlt hS'
        go_wp2_with (first
          | (go_at_call 83; refine (HSum.out _).mono ?_; rintro e w1 ⟨rfl, hw⟩; subst hw)
          | (go_at_call 100; refine HD.out.mono ?_; rintro e w2 ⟨v1, rfl, ho1, hg1, hvb, hsz2⟩; obtain ⟨b1, q1, rfl⟩ := own_slice ho1; have H2 := hid (And.intro ho1 (And.intro hg1 (And.intro hvb hsz2))); clear ho1 hg1 hvb hsz2))
        generalize hfs : (ps.filter fun p => !decide (p.2 = x)) = fs at *
        have hfl : fs.length ≤ ps.length := by rw [← hfs]; exact List.length_filter_le _ _
        have HFS := hid hfs
        clear hfs
        obtain ⟨hf, hstr, hM, hSts, hdis, hv, hps, hS, hb1, k5, k6⟩ := HX.out
        obtain ⟨ho1, hg1, hvb, hsz2⟩ := H2.out
        have hlr := hM.lt
        have hM1 := hM.on (hb1.block r hM.lt)
        have hne5 : some wr.heap.size ≠ (Value.slice va ps.length vc).ownBlock := fun e => Nat.lt_irrefl _ (HL.out _ e.symm)
        have hne6 : some (wr.heap.size + 1) ≠ (Value.slice va ps.length vc).ownBlock := fun e => by have := HL.out _ e.symm; omega
        have hner : some r ≠ (Value.slice va ps.length vc).ownBlock := fun e => by
          have h := (hSts S k).1
          rw [hv] at h
          obtain ⟨-, c', fz', h'⟩ := own_block h r e.symm
          obtain ⟨es, clock, hb', -⟩ := hM
          rw [hb'] at h'
          cases h'
        have k5' := (hg1.block wr.heap.size (lt_of_block k5) hne5).trans k5
        have k6' := (hg1.block (wr.heap.size + 1) (lt_of_block k6) hne6).trans k6
        have hM2 := hM1.on (hg1.block r hM1.lt hner)
        have c5' := (one_cellD k5').1
        obtain ⟨c60', c61', -, -⟩ := res_two k6'
        obtain ⟨i0, hi, hz0, hz1, hz2⟩ := info_parts Tryz.infoRowB
        have hbase2 : base ≤ w2.heap.size := by have := hr.out.2.2.size; omega
        have hnsz : wr.heap.size + 2 = w2.heap.size := by omega
        have hlr2 : r < w2.heap.size := by omega
        have hvb5 : some wr.heap.size ≠ (Value.slice b1 fs.length q1).ownBlock := by rw [hvb]; exact hne5
        have hvb6 : some (wr.heap.size + 1) ≠ (Value.slice b1 fs.length q1).ownBlock := by rw [hvb]; exact hne6
        have hvbr : some r ≠ (Value.slice b1 fs.length q1).ownBlock := by rw [hvb]; exact hner
        have HV := hid (And.intro hvb5 (And.intro hvb6 hvbr))
        have HY := hid (And.intro ho1 (And.intro hM2 (And.intro k5' k6')))
        have hre5 : wr.heap.size ≠ r := by omega
        have hre6 : wr.heap.size + 1 ≠ r := by omega
        clear hf hstr hM hSts hdis hv hps hS hb1 k5 k6 ho1 hg1 hM1 hM2 k5' k6' c5 c60 c61 HD hvb hne5 hne6 hner hvb5 hvb6 hvbr hsz2
        go_region_held3 (fun W => W.cell? ⟨wr.heap.size + 1, 0, none⟩ = some (.int .u32 S) ∧ W.cell? ⟨wr.heap.size + 1, 1, none⟩ = some (.int .i64 k) ∧ W.cell? ⟨wr.heap.size, 0, none⟩ = some (.slice (some ca) cn cc)) (go_keep) (first | (refine step_append_lies _ rfl (.tmp 26) (.tmp 28) 35 rfl base 25 i0 (.slice none 0 0) 1 24 Tryz.underlying35 hi hz0 hz1 hz2 rfl (by decide) (.slice b1 fs.length q1) fs.length (fs.map (·.1)) rfl (by exact HY.out.1.alloc _) ⟨w2.heap.size, 0, none⟩ 1 1 [.slice (some ca) cn cc] rfl rfl (World.news_of_block (cs := #[.slice (some ca) cn cc]) (by exact heap_alloc_new w2 _)) (by intro u hu; simp at hu; subst hu; rfl) (by decide) (by unfold maxLen; omega) (by omega) (by simp; omega) _ rfl ?_; intro g cap w3 ow3 gr3 hat hlt3; have j5 : w3.heap[wr.heap.size]? = some (.cells #[.slice (some ca) cn cc] 25 (0, 0)) := (gr3.block wr.heap.size (by simp; omega) HV.out.1).trans ((Below.heap_alloc w2 _ wr.heap.size (by omega)).trans HY.out.2.2.1); have j6 : w3.heap[wr.heap.size + 1]? = some (.cells #[.int .u32 S, .int .i64 k] 191 (0, 0)) := (gr3.block (wr.heap.size + 1) (by simp; omega) HV.out.2.1).trans ((Below.heap_alloc w2 _ (wr.heap.size + 1) (by omega)).trans HY.out.2.2.2); have hM3 : MapAt w3 r l := HY.out.2.1.on ((gr3.block r (by simp; omega) HV.out.2.2).trans (Below.heap_alloc w2 _ r hlr2)); obtain ⟨w4, hmu, hm4, hg4, hsz4⟩ := run_put hM3 S k (.slice (some ⟨g, 0, none⟩) (fs.length + 1) cap); unfold pk at hmu; have y5 := (one_cellD j5).1; obtain ⟨y60, y61, -, -⟩ := res_two j6; have z5 := (one_cellD ((hg4.block wr.heap.size (lt_of_block j5) (by intro e; injection e with e; exact hre5 e)).trans j5)).1; obtain ⟨z60, z61, -, -⟩ := res_two ((hg4.block (wr.heap.size + 1) (lt_of_block j6) (by intro e; injection e with e; exact hre6 e)).trans j6); have H4 := hid (And.intro ow3 (And.intro gr3 (And.intro hat (And.intro hm4 (And.intro hg4 hsz4))))); clear j5 j6 hM3 ow3 gr3 hat hm4 hg4 hsz4))
        go_wp2
        obtain ⟨hf, hstr, hM, hSts, hdis, hv, hps, hS, hb1, k5, k6⟩ := HX.out
        obtain ⟨ho1, hg1, hvb, hsz2⟩ := H2.out
        obtain ⟨ow3, gr3, hat, hm4, hg4, hsz4⟩ := H4.out
        have hownS : wr.ownsRow base 25 1 (valE S k l) (keepM M fo k S k).length ((keepM M fo k S k).map (·.1)) := (hSts S k).1
        have gA : wr.grownBy w2 (valE S k l).ownBlock := by
          rw [hv]
          exact ⟨hg1.os.trans hb1.os, hg1.tape.trans hb1.tape, hg1.output.trans hb1.output, Nat.le_trans hb1.size hg1.size, fun i hi hne => (hg1.block i (Nat.lt_of_lt_of_le hi hb1.size) hne).trans (hb1.block i hi)⟩
        have gB : w2.grownBy w3 (valE S k l).ownBlock := by
          rw [hv, ← hvb]
          exact grown_allocD gr3
        have e1 : keepM M fo (k + 1) = updM (keepM M fo k) S k (keepRow ps (.slice (some ca) cn cc) x) := by
          show (match fo k with | none => keepM M fo k | some (c, x) => updM (keepM M fo k) (Fr.val (Fr.last4 x)) k (keepRow (keepM M fo k (Fr.val (Fr.last4 x)) k) c x)) = _
          rw [hf]
          simp only []
          rw [hS, hps]
        have e2 : keepRow ps (.slice (some ca) cn cc) x = fs ++ [(.slice (some ca) cn cc, x)] := by
          unfold keepRow
          rw [HFS.out]
        have hown3 : w3.ownsRow base 25 1 (.slice (some ⟨g, 0, none⟩) (fs.length + 1) cap) (keepRow ps (.slice (some ca) cn cc) x).length ((keepRow ps (.slice (some ca) cn cc) x).map (·.1)) := by
          rw [e2]
          have l1 : (fs ++ [((.slice (some ca) cn cc : Value), x)]).length = fs.length + 1 := by simp
          have l2 : (fs ++ [((.slice (some ca) cn cc : Value), x)]).map (·.1) = fs.map (·.1) ++ [.slice (some ca) cn cc] := by simp
          rw [l1, l2]
          exact ow3
        have hall : ∀ p ∈ keepRow ps (.slice (some ca) cn cc) x, StAt wr p.1 p.2 := by
          intro p hp
          rw [e2] at hp
          rcases List.mem_append.1 hp with h | h
          · rw [← HFS.out] at h
            have := (hSts S k).2
            rw [hps] at this
            exact this p (List.mem_filter.1 h).1
          · obtain rfl := List.mem_singleton.1 h
            exact hstr
        have hnew : (Value.slice (some ⟨g, 0, none⟩) (fs.length + 1) cap).ownBlock = (valE S k l).ownBlock ∨ ∃ b, (Value.slice (some ⟨g, 0, none⟩) (fs.length + 1) cap).ownBlock = some b ∧ wr.heap.size ≤ b := by
          rcases hat with h | h
          · left
            rw [hv, ← hvb, h]
            rfl
          · right
            refine ⟨g, rfl, ?_⟩
            rw [h]
            simp
            omega
        have hKA := KeepAt.put hM hSts hdis gA gB hown3 hall hnew hm4 hg4
        have hbt : ∀ b, (valE S k l).ownBlock = some b → base ≤ b ∧ b < wr.heap.size ∧ ∃ c fz, wr.heap[b]? = some (.cells c 25 fz) := fun b hb => by
          obtain ⟨h1, c', fz', h'⟩ := own_block hownS b hb
          exact ⟨h1, lt_of_block h', c', fz', h'⟩
        have kA : KeepsT wr w2 := KeepsT.grown gA (fun b hb c t fz hc => by
          obtain ⟨-, -, c', fz', h'⟩ := hbt b hb
          rw [h'] at hc
          cases hc
          rfl)
        have kAB : KeepsT wr w3 := ⟨Nat.le_trans gA.size gB.size, fun i c t fz hi ht => by
          have hne : some i ≠ (valE S k l).ownBlock := fun e => by
            obtain ⟨-, -, c', fz', h'⟩ := hbt i e.symm
            rw [h'] at hi
            cases hi
            exact ht rfl
          exact (gB.block i (Nat.lt_of_lt_of_le (lt_of_block hi) gA.size) hne).trans (gA.block i (lt_of_block hi) hne)⟩
        have kC : KeepsT w3 w4 := KeepsT.grown hg4 (fun b hb c t fz hc => by
          injection hb with hb
          subst hb
          obtain ⟨es, clock, hbm, -⟩ := hM
          have : w3.heap[r]? = some (.map es clock) := by
            have h1 : some r ≠ (valE S k l).ownBlock := fun e => by
              obtain ⟨-, -, c', fz', h'⟩ := hbt r e.symm
              rw [hbm] at h'
              cases h'
            exact ((gB.block r (Nat.lt_of_lt_of_le (lt_of_block hbm) gA.size) h1).trans (gA.block r (lt_of_block hbm) h1)).trans hbm
          rw [this] at hc
          cases hc)
        have hbA : Below base wr w2 := (Below.refl base wr).grown gA (Nat.le_trans hbw hr.out.2.2.size) (fun b hb => (hbt b hb).1)
        have hbB : Below base wr w3 := hbA.grown gB (by have := hbA.size; have := hr.out.2.2.size; omega) (fun b hb => (hbt b hb).1)
        have hbC : Below base wr w4 := hbB.grown hg4 (by have := hbB.size; have := hr.out.2.2.size; omega) (fun b hb => by cases hb; exact hbr)
        exact ⟨⟨k + 1, by omega, by go_num, e1 ▸ hKA, hr.out.2.1.trans (kAB.trans kC), hr.out.2.2.trans hbC⟩, by simp [intOf]; omega⟩
    · obtain rfl : k = 5 := by omega
      go_wp2
      go_end0
      exact ⟨rfl, hr.out.1, hr.out.2.1, hr.out.2.2⟩

end Go.Proofs.YtfldcmdhneegmabGreatDoor

/-
  package chain's WALK of statesOf.
-/
namespace Go.Proofs.YtfldcmdhneegmabGreatDoor
open Go.RowKit Go.Lib Go.Shelf

/-- A row's states, as Backward hands them out. -/
theorem items_of {base : Nat} {w : World} {v : Value} {ps : List (Value × List UInt8)} (h : StsAt base w v ps) : ∃ zs : List (Item w), zs.length = ps.length ∧ ItemsAt w.heap.size w w v zs ∧ ∀ g : List UInt8 → Option (List UInt8), zs.findSome? (fun x => g x.1.2.2) = ps.reverse.findSome? (fun p => g p.2) := by
  obtain ⟨hown, hst⟩ := h
  have hst' : ∀ p ∈ ps.reverse, StAt w p.1 p.2 := fun p hp => hst p (List.mem_reverse.1 hp)
  have hz : ∀ (qs : List (Value × List UInt8)) (hq : ∀ p ∈ qs, StAt w p.1 p.2), ∃ zs : List (Item w), zs.length = qs.length ∧ (∀ j (hj : j < zs.length) (hq' : j < qs.length), zs[j].1.1 + j + 1 = qs.length ∧ zs[j].1.2 = qs[j]) ∧ ∀ g : List UInt8 → Option (List UInt8), zs.findSome? (fun x => g x.1.2.2) = qs.findSome? (fun p => g p.2) := by
    intro qs
    induction qs with
    | nil => intro _; exact ⟨[], rfl, fun j hj => by simp at hj, fun g => rfl⟩
    | cons p r ih =>
      intro hq
      obtain ⟨zs, h1, h2, h3⟩ := ih (fun p' hp' => hq p' (List.mem_cons_of_mem _ hp'))
      refine ⟨⟨(r.length, p.1, p.2), hq p (List.mem_cons_self ..)⟩ :: zs, by simp [h1], fun j hj hq' => ?_, fun g => ?_⟩
      · cases j with
        | zero => simp
        | succ j =>
          obtain ⟨e1, e2⟩ := h2 j (by simpa using hj) (by simpa using hq')
          simp only [List.getElem_cons_succ, List.length_cons]
          exact ⟨by omega, e2⟩
      · simp only [List.findSome?_cons]
        rw [h3 g]
  obtain ⟨zs, h1, h2, h3⟩ := hz ps.reverse hst'
  have hlr : ps.reverse.length = ps.length := List.length_reverse
  refine ⟨zs, by omega, ?_, h3⟩
  rcases hown.2 with ⟨rfl, h0⟩ | ⟨g, cap, cur, rfl, hbase, hblk, hn, hmax, hcur, htake⟩
  · exact .inl ⟨rfl, List.eq_nil_of_length_eq_zero (by omega)⟩
  · refine .inr ⟨g, 0, cap, by rw [h1, hlr], lt_of_block hblk, fun j hj => ?_⟩
    obtain ⟨e1, e2⟩ := h2 j hj (by omega)
    refine ⟨by omega, ?_⟩
    have hi : zs[j].1.1 < ps.length := by omega
    have e3 : ps.reverse[j]'(by omega) = ps[zs[j].1.1] := by
      rw [List.getElem_reverse]
      congr 1
      omega
    have e4 : cur[zs[j].1.1]? = some zs[j].1.2.1 := by
      have h5 : cur.toList[zs[j].1.1]? = (ps.map (·.1))[zs[j].1.1]? := by
        rw [← htake, List.getElem?_take_of_lt (by omega)]
      rw [Array.getElem?_toList] at h5
      rw [h5, e2, e3]
      simp [hi]
    simp only [Nat.zero_add]
    simp [World.cell?, hblk, e4]

theorem led_keep {base r : Nat} {M : Nat → Nat → List (Value × List UInt8)} {w : World} (hK : KeepAt base w r M) (s p q k : Nat) (am : Addr) (n cm : Nat) (m : List UInt8) (G : Nat → Prop) (hlen : (M s k).length ≤ 1000)
    (hm : BytesAt G w (.slice (some am) n cm) m) (hml : m.length ≤ 100000) (hp : p < 18446744073709551616) (hq : q < 18446744073709551616) :
    Calls Tryz.prog 99 #[.map (some r), dval s p q (.slice (some am) n cm), .int .i64 k] w (LedEnd ((M s k).reverse.findSome? fun y => ledOf s p q m y.2) w) := by
  obtain ⟨l, h1, h2, -⟩ := hK
  obtain ⟨zs, e1, e2, e3⟩ := items_of (h2 s k)
  have := led_any r l s p q k am n cm m G w zs h1 e2 (by omega) hm hml hp hq
  rw [e3 (fun x => ledOf s p q m x)] at this
  exact this
theorem own_u8 {w : World} {base : Nat} {v : Value} {t : List UInt8} (h : w.ownsRow base 5 1 v t.length (byteCells t)) : BytesAt (U8 w) w v t := by
  have h0 := RowAt.ofOwn h
  refine ⟨h0.1, ?_⟩
  rcases h0.2 with h2 | ⟨b, o, cap, hv, hF, hb, r⟩
  · exact Or.inl h2
  · refine Or.inr ⟨b, o, cap, hv, ?_, hb, r⟩
    obtain ⟨-, c, fz, hh⟩ := own_block h b (by rw [hv]; rfl)
    exact ⟨c, fz, hh⟩
/-- What led answers, as it is kept. -/
theorem LedEnd.cell {o : Option (List UInt8)} {w w' : World} {e : Ending} (h : LedEnd o w e w') (hb : ∀ t, o = some t → 5 ≤ t.length ∧ t.length ≤ 400000) : ∃ (a : Option Addr) (n c : Nat) (fk : Option (Value × List UInt8)), e = .returned (.slice a n c) ∧ cellO fk = .slice a n c ∧ fk.map (·.2) = o ∧ (∀ c x, fk = some (c, x) → StAt w' c x) ∧ Below w.heap.size w w' := by
  obtain ⟨h1, h2⟩ := h
  cases o with
  | none => exact ⟨none, 0, 0, none, h2, rfl, rfl, fun _ _ h => (by cases h), h1⟩
  | some t =>
    obtain ⟨v, he, ho⟩ := h2
    obtain ⟨a, c, rfl⟩ := own_slice ho
    obtain ⟨b5, b4⟩ := hb t rfl
    refine ⟨a, t.length, c, some (.slice a t.length c, t), he, rfl, rfl, fun c' x hx => ?_, h1⟩
    cases hx
    refine ⟨fun e => ?_, ?_, b5, b4⟩
    · injection e with h1 h2 h3
      omega
    · exact own_u8 ho

/-- The states for which a frame stands, within 0, 1, .. deltas, by what is kept. -/
def stOf (L : Nat → Nat → List (List UInt8)) (f : List UInt8) (k : Nat) : Option (List UInt8) :=
  if (Fr.sound f 83).isSome = true then some f
  else match Fr.parts f with
    | none => none
    | some (sl, p, q, m) => match k with
      | 0 => none
      | k + 1 => (L (Fr.val sl) k).reverse.findSome? (ledOf (Fr.val sl) p q m)
def plainM (M : Nat → Nat → List (Value × List UInt8)) : Nat → Nat → List (List UInt8) := fun s k => (M s k).map (·.2)
theorem findSome_plain (ps : List (Value × List UInt8)) (g : List UInt8 → Option (List UInt8)) : ps.reverse.findSome? (fun p => g p.2) = (ps.map (·.2)).reverse.findSome? g := by
  rw [← List.map_reverse, List.findSome?_map]
  rfl

/-- What statesOf answers. -/
def StatesEnd (so : Nat → Option (List UInt8)) (w : World) (e : Ending) (w' : World) : Prop :=
  Below w.heap.size w w' ∧ ∃ fo : Nat → Option (Value × List UInt8), e = .returned (.agg #[cellO (fo 0), cellO (fo 1), cellO (fo 2), cellO (fo 3), cellO (fo 4)]) ∧ (∀ k, k < 5 → (fo k).map (·.2) = so k) ∧ ∀ k c x, k < 5 → fo k = some (c, x) → StAt w' c x
theorem blk_five {w : World} {b : Nat} {x y z u v : Value} {t : TypeId} (h : w.heap[b]? = some (.cells #[x, y, z, u, v] t (0, 0))) : w.cell? ⟨b, 0, none⟩ = some x ∧ w.cell? ⟨b, 1, none⟩ = some y ∧ w.cell? ⟨b, 2, none⟩ = some z ∧ w.cell? ⟨b, 3, none⟩ = some u ∧ w.cell? ⟨b, 4, none⟩ = some v ∧ ∀ i, w.frozen? ⟨b, i, none⟩ = false := by
  simp [World.cell?, World.frozen?, h]
theorem set_five {w : World} {b : Nat} {x y z u v : Value} {t : TypeId} (h : w.heap[b]? = some (.cells #[x, y, z, u, v] t (0, 0))) (n : Value) :
    (w.setCell ⟨b, 0, none⟩ n).heap[b]? = some (.cells #[n, y, z, u, v] t (0, 0)) ∧ (w.setCell ⟨b, 1, none⟩ n).heap[b]? = some (.cells #[x, n, z, u, v] t (0, 0)) ∧ (w.setCell ⟨b, 2, none⟩ n).heap[b]? = some (.cells #[x, y, n, u, v] t (0, 0)) ∧ (w.setCell ⟨b, 3, none⟩ n).heap[b]? = some (.cells #[x, y, z, n, v] t (0, 0)) ∧ (w.setCell ⟨b, 4, none⟩ n).heap[b]? = some (.cells #[x, y, z, u, n] t (0, 0)) := by
  have hlt := lt_of_block h
  have h' : w.heap[b] = .cells #[x, y, z, u, v] t (0, 0) := by simpa [Array.getElem?_eq_getElem hlt] using h
  refine ⟨?_, ?_, ?_, ?_, ?_⟩
  all_goals
    show (w.heap.modify b _)[b]? = _
    rw [Array.getElem?_eq_getElem (by simpa using hlt), Array.getElem_modify_self, h']
    rfl
/-- Five stores into one block. -/
def five (w : World) (b : Nat) (x y z u v : Value) : World := ((((w.setCell ⟨b, 0, none⟩ x).setCell ⟨b, 1, none⟩ y).setCell ⟨b, 2, none⟩ z).setCell ⟨b, 3, none⟩ u).setCell ⟨b, 4, none⟩ v
theorem five_at {w : World} {b : Nat} {x y z u v : Value} {t : TypeId} (h : w.heap[b]? = some (.cells #[x, y, z, u, v] t (0, 0))) (x' y' z' u' v' : Value) : (five w b x' y' z' u' v').heap[b]? = some (.cells #[x', y', z', u', v'] t (0, 0)) :=
  (set_five (set_five (set_five (set_five (set_five h x').1 y').2.1 z').2.2.1 u').2.2.2.1 v').2.2.2.2
theorem five_but (w : World) (b : Nat) (x y z u v : Value) : But b w (five w b x y z u v) := ((((but_set w b 0 x).trans (but_set _ b 1 y)).trans (but_set _ b 2 z)).trans (but_set _ b 3 u)).trans (but_set _ b 4 v)
theorem five_below {B b : Nat} {a w : World} (h : Below B a w) (hb : B ≤ b) (x y z u v : Value) : Below B a (five w b x y z u v) := ((((h.setCell hb _).setCell hb _).setCell hb _).setCell hb _).setCell hb _

theorem parts_lenR {d sl m : List UInt8} {p q : Nat} (h : Fr.parts d = some (sl, p, q, m)) : m.length ≤ d.length := by
  rw [(Fr.parts_back h).1]
  unfold Fr.framed
  simp
  omega
theorem KeepAt.set {base : Nat} {w : World} {r : Nat} {M : Nat → Nat → List (Value × List UInt8)} {b : Nat} {cs : Array Value} {t : TypeId} {fz : Nat × Nat} (h : KeepAt base w r M) (hb : w.heap[b]? = some (.cells cs t fz)) (h1 : t ≠ 25) (h2 : t ≠ 5) (i : Nat) (v : Value) : KeepAt base (w.setCell ⟨b, i, none⟩ v) r M := by
  obtain ⟨l, hM, hS, hd⟩ := h
  have hg := but_set w b i v
  refine ⟨l, hM.on (hg.block r hM.lt (fun e => by
    injection e with e
    obtain ⟨es, clock, hm, -⟩ := hM
    rw [e, hb] at hm
    cases hm)), fun s k => ⟨own_grown_other (hS s k).1 hg ?_, fun p hp => ((hS s k).2 p hp).grown hg (fun j e hu => ?_)⟩, hd⟩
  · cases hv : (valE s k l).ownBlock with
    | none => exact Or.inl rfl
    | some g =>
      right
      intro e
      injection e with e
      obtain ⟨-, c, fz', hh⟩ := own_block (hS s k).1 g hv
      rw [e, hb] at hh
      cases hh
      exact h1 rfl
  · injection e with e
    subst e
    obtain ⟨c, fz', hh⟩ := hu
    rw [hb] at hh
    cases hh
    exact h2 rfl
/-- What statesOf sees as it goes on. -/
structure StCtx (base r : Nat) (M : Nat → Nat → List (Value × List UInt8)) (w : World) (DB S p q : Nat) (am : Addr) (n cm : Nat) (m : List UInt8) (W : World) (x0 x1 x2 x3 x4 : Value) : Prop where
  keep : KeepAt base W r M
  bel : Below w.heap.size w W
  out : W.heap[w.heap.size + 1]? = some (.cells #[x0, x1, x2, x3, x4] 114 (0, 0))
  res : W.heap[w.heap.size]? = some (.cells #[.slice none 0 0, .slice none 0 0, .slice none 0 0, .slice none 0 0, .slice none 0 0] 114 (0, 0))
  d : W.heap[DB]? = some (.cells #[.int .u32 S, .int .u64 p, .int .u64 q, .slice (some am) n cm] 91 (0, 0))
  mid : BytesAt (U8 w) W (.slice (some am) n cm) m
  gt : w.heap.size + 1 < DB
theorem StCtx.start {base r : Nat} {M : Nat → Nat → List (Value × List UInt8)} {w w3 W3 : World} {S p q : Nat} {am : Addr} {n cm : Nat} {m : List UInt8} {x0 x1 x2 x3 x4 : Value} (hK : KeepAt base w r M) (hW : w3.alloc (.cells #[.int .u32 S, .int .u64 p, .int .u64 q, .slice (some am) n cm] 91) = W3) (hb : Below w.heap.size w w3) (ho : w3.heap[w.heap.size + 1]? = some (.cells #[x0, x1, x2, x3, x4] 114 (0, 0))) (hr : w3.heap[w.heap.size]? = some (.cells #[.slice none 0 0, .slice none 0 0, .slice none 0 0, .slice none 0 0, .slice none 0 0] 114 (0, 0))) (hm : BytesAt (U8 w) w3 (.slice (some am) n cm) m) : StCtx base r M w w3.heap.size S p q am n cm m W3 x0 x1 x2 x3 x4 := by
  subst hW
  exact ⟨hK.below (hb.alloc hb.size _), hb.alloc hb.size _, (Below.heap_alloc _ _ _ (lt_of_block ho)).trans ho, (Below.heap_alloc _ _ _ (lt_of_block hr)).trans hr, heap_alloc_new _ _, hm.below ((Below.refl _ _).alloc (Nat.le_refl _) _), lt_of_block ho⟩
theorem StCtx.on {base r : Nat} {M : Nat → Nat → List (Value × List UInt8)} {w W W' : World} {DB S p q : Nat} {am : Addr} {n cm : Nat} {m : List UInt8} {x0 x1 x2 x3 x4 : Value} (h : StCtx base r M w DB S p q am n cm m W x0 x1 x2 x3 x4) (hb : Below W.heap.size W W') : StCtx base r M w DB S p q am n cm m W' x0 x1 x2 x3 x4 :=
  ⟨h.keep.below hb, h.bel.trans (hb.mono h.bel.size), (hb.block _ (lt_of_block h.out)).trans h.out, (hb.block _ (lt_of_block h.res)).trans h.res, (hb.block _ (lt_of_block h.d)).trans h.d, h.mid.below hb, h.gt⟩
theorem StCtx.put {base r : Nat} {M : Nat → Nat → List (Value × List UInt8)} {w W : World} {DB S p q : Nat} {am : Addr} {n cm : Nat} {m : List UInt8} {x0 x1 x2 x3 x4 y0 y1 y2 y3 y4 : Value} (h : StCtx base r M w DB S p q am n cm m W x0 x1 x2 x3 x4) (i : Nat) (v : Value) (ho : (W.setCell ⟨w.heap.size + 1, i, none⟩ v).heap[w.heap.size + 1]? = some (.cells #[y0, y1, y2, y3, y4] 114 (0, 0))) : StCtx base r M w DB S p q am n cm m (W.setCell ⟨w.heap.size + 1, i, none⟩ v) y0 y1 y2 y3 y4 :=
  have hg := but_set W (w.heap.size + 1) i v
  ⟨h.keep.set h.out (by decide) (by decide) i v, h.bel.setCell (by show w.heap.size ≤ w.heap.size + 1; omega) v, ho, (hg.block _ (lt_of_block h.res) (by intro e; injection e with e; omega)).trans h.res, (hg.block _ (lt_of_block h.d) (by intro e; injection e with e; have := h.gt; omega)).trans h.d, BytesAt.but h.mid hg (fun ⟨c, fz, hu⟩ => by have := lt_of_block hu; omega), h.gt⟩
/-- A state that was found, or none. -/
def StO (W : World) (f : Option (Value × List UInt8)) : Prop := ∀ c x, f = some (c, x) → StAt W c x
theorem StO.on {W W' : World} {f : Option (Value × List UInt8)} (h : StO W f) (hb : Below W.heap.size W W') : StO W' f := fun c x hf => (h c x hf).below hb
theorem StO.put {W : World} {f : Option (Value × List UInt8)} (h : StO W f) {b : Nat} {cs : Array Value} {t : TypeId} {fz : Nat × Nat} (hb : W.heap[b]? = some (.cells cs t fz)) (h2 : t ≠ 5) (i : Nat) (v : Value) : StO (W.setCell ⟨b, i, none⟩ v) f := fun c x hf => (h c x hf).grown (but_set W b i v) (fun j e hu => by
  injection e with e
  subst e
  obtain ⟨c, fz', hh⟩ := hu
  rw [hb] at hh
  cases hh
  exact h2 rfl)

theorem StO.five {W : World} {f : Option (Value × List UInt8)} (h : StO W f) {b : Nat} {x y z u v : Value} {t : TypeId} (hb : W.heap[b]? = some (.cells #[x, y, z, u, v] t (0, 0))) (h2 : t ≠ 5) (x' y' z' u' v' : Value) : StO (five W b x' y' z' u' v') f := by
  have s1 := (set_five hb x').1
  have s2 := (set_five s1 y').2.1
  have s3 := (set_five s2 z').2.2.1
  have s4 := (set_five s3 u').2.2.2.1
  exact ((((h.put hb h2 0 x').put s1 h2 1 y').put s2 h2 2 z').put s3 h2 3 u').put s4 h2 4 v'

set_option maxHeartbeats 4000000 in
set_option maxRecDepth 1000000 in
theorem statesOf_any (base r : Nat) (M : Nat → Nat → List (Value × List UInt8)) (vf : Value) (f : List UInt8) (w : World) (hK : KeepAt base w r M) (hv : BytesAt (U8 w) w vf f) (hn : vf ≠ .slice none 0 0) (hl : f.length ≤ 65536) (hlen : ∀ s k, (M s k).length ≤ 1000) (hb : ∀ k t, k < 5 → stOf (plainM M) f k = some t → 5 ≤ t.length ∧ t.length ≤ 400000) :
    Calls Tryz.prog 48 #[.map (some r), vf] w (StatesEnd (stOf (plainM M) f) w) := by
  obtain ⟨af, nf, qf, rfl⟩ := BytesAt.isSlice hv hn
  obtain ⟨W2, hW2⟩ : ∃ W, (w.alloc (.cells #[.slice none 0 0, .slice none 0 0, .slice none 0 0, .slice none 0 0, .slice none 0 0] 114)).alloc (.cells #[.slice none 0 0, .slice none 0 0, .slice none 0 0, .slice none 0 0, .slice none 0 0] 114) = W := ⟨_, rfl⟩
  have hb2 : Below w.heap.size w W2 := by rw [← hW2]; exact ((Below.refl _ _).alloc (Nat.le_refl _) _).alloc (by simp) _
  have hsz2 : W2.heap.size = w.heap.size + 2 := by rw [← hW2]; simp
  have kA : W2.heap[w.heap.size]? = some (.cells #[.slice none 0 0, .slice none 0 0, .slice none 0 0, .slice none 0 0, .slice none 0 0] 114 (0, 0)) := by rw [← hW2]; exact (Below.heap_alloc _ _ _ (by simp)).trans (heap_alloc_new w _)
  have kB : W2.heap[w.heap.size + 1]? = some (.cells #[.slice none 0 0, .slice none 0 0, .slice none 0 0, .slice none 0 0, .slice none 0 0] 114 (0, 0)) := by rw [← hW2]; exact new_at (by simp)
  have HC := hid (fCheckS_any (U8 w) _ f W2 (hv.below hb2) (by omega))
  by_cases hso : (Fr.sound f 83).isSome = true
  · have h5 := sound_four hso
    have hst : StAt w (.slice (some af) nf qf) f := ⟨hn, hv, h5, by omega⟩
    have e1 : ∀ k, stOf (plainM M) f k = some f := fun k => by unfold stOf; rw [if_pos hso]
    have HX := hid (And.intro hst (And.intro e1 (And.intro hso (And.intro hb2 (And.intro kA kB)))))
    clear hK hv hn hlen hb hst e1 hso hb2 kA kB
    go_enter Tryz.func48, Tryz.ntmps48
    go_wp2_with (go_at_call 35; refine HC.out.mono ?_; rintro e w1 ⟨hb1, he, -⟩; obtain rfl := he HX.out.2.2.1; have j1 := (hb1.block (w.heap.size + 1) (by omega)).trans HX.out.2.2.2.2.2; have j0 := (hb1.block w.heap.size (by omega)).trans HX.out.2.2.2.2.1; obtain ⟨c0, c1, c2, c3, c4, cz⟩ := blk_five j1; obtain ⟨d0, d1, d2, d3, d4, dz⟩ := blk_five j0; have H1 := hid (And.intro hb1 (And.intro j0 j1)); clear hb1 he j0 j1)
    refine wp_loop_rounds 6 ?_
    rw [rounds_succ]
    go_wp2
    rw [rounds_succ]
    go_wp2
    rw [rounds_succ]
    go_wp2
    rw [rounds_succ]
    go_wp2
    rw [rounds_succ]
    go_wp2
    rw [rounds_succ]
    go_wp2
    have jA := ((five_but w1 (w.heap.size + 1) (.slice (some af) nf qf) (.slice (some af) nf qf) (.slice (some af) nf qf) (.slice (some af) nf qf) (.slice (some af) nf qf)).block w.heap.size (lt_of_block H1.out.2.1) (by intro e; injection e with e; omega)).trans H1.out.2.1
    have hfin := five_at jA (.slice (some af) nf qf) (.slice (some af) nf qf) (.slice (some af) nf qf) (.slice (some af) nf qf) (.slice (some af) nf qf)
    have hbw1 : Below w.heap.size w w1 := HX.out.2.2.2.1.trans (H1.out.1.mono (by omega))
    have hbf := five_below (five_below hbw1 (by omega : w.heap.size ≤ w.heap.size + 1) (.slice (some af) nf qf) (.slice (some af) nf qf) (.slice (some af) nf qf) (.slice (some af) nf qf) (.slice (some af) nf qf)) (Nat.le_refl _) (.slice (some af) nf qf) (.slice (some af) nf qf) (.slice (some af) nf qf) (.slice (some af) nf qf) (.slice (some af) nf qf)
    unfold five at hfin hbf
    obtain ⟨g0, g1, g2, g3, g4, -⟩ := blk_five hfin
    refine bodyPost_ret (v := .agg #[.slice (some af) nf qf, .slice (some af) nf qf, .slice (some af) nf qf, .slice (some af) nf qf, .slice (some af) nf qf]) (by simp [results, Tryz.results48, go_sem, g0, g1, g2, g3, g4]) rfl ?_
    exact ⟨hbf, fun _ => some (.slice (some af) nf qf, f), rfl, fun k _ => (HX.out.2.1 k).symm, fun k c x _ h => by cases h; exact HX.out.1.below hbf⟩
  · have hso' : (Fr.sound f 83).isSome = false := by simpa using hso
    have HV := hid (And.intro hv (And.intro hb2 (And.intro kA (And.intro kB hso'))))
    cases hp : Fr.parts f with
    | none =>
      have e1 : ∀ k, stOf (plainM M) f k = none := fun k => by unfold stOf; rw [if_neg hso, hp]
      have HX := hid (And.intro e1 hp)
      clear hK hv hn hlen hb e1 hso hso' hb2 kA kB hp
      go_enter Tryz.func48, Tryz.ntmps48
      go_wp2_with (first
        | (go_at_call 35; refine HC.out.mono ?_; rintro e w1 ⟨hb1, -, he⟩; obtain ⟨n1, s1, rfl⟩ := he HV.out.2.2.2.2; have H1 := hid (And.intro hb1 (HV.out.2.1.trans (hb1.mono (by omega)))); clear hb1 he)
        | (go_at_call 46; refine (opened_any (U8 w) _ f _ (HV.out.1.below H1.out.2) (fun i h => by obtain ⟨c, fz, hc⟩ := h; have := lt_of_block hc; have := H1.out.2.size; omega) (by omega)).mono ?_; rintro e w3 ⟨hb3, he⟩; rw [HX.out.2] at he; obtain ⟨n3, s3, rfl⟩ := he; have hbx : Below (w.heap.size + 2) W2 w3 := (H1.out.1.mono (by omega)).trans (hb3.mono (by have := H1.out.1.size; omega)); have j1 := (hbx.block (w.heap.size + 1) (by omega)).trans HV.out.2.2.2.1; have j0 := (hbx.block w.heap.size (by omega)).trans HV.out.2.2.1; have hlt3 : w.heap.size + 1 < w3.heap.size := lt_of_block j1; have hlt3' : w.heap.size < w3.heap.size := lt_of_block j0; obtain ⟨c0, c1, c2, c3, c4, cz⟩ := blk_five j1; obtain ⟨d0, d1, d2, d3, d4, dz⟩ := blk_five j0; have H3 := hid (And.intro (H1.out.2.trans (hb3.mono H1.out.2.size)) (And.intro j0 j1)); clear hb3 hbx j0 j1; unfold dval))
      have hfin0 := five_at H3.out.2.1 (.slice none 0 0) (.slice none 0 0) (.slice none 0 0) (.slice none 0 0) (.slice none 0 0)
      have hfin := (Below.heap_alloc _ (.cells #[.int .u32 0, .int .u64 0, .int .u64 0, .slice none 0 0] 91) _ (lt_of_block hfin0)).trans hfin0
      have hbf := (five_below H3.out.1 (Nat.le_refl _) (.slice none 0 0) (.slice none 0 0) (.slice none 0 0) (.slice none 0 0) (.slice none 0 0)).alloc (Nat.le_of_lt (lt_of_block hfin0)) (.cells #[.int .u32 0, .int .u64 0, .int .u64 0, .slice none 0 0] 91)
      unfold five at hfin hbf
      obtain ⟨g0, g1, g2, g3, g4, -⟩ := blk_five hfin
      refine bodyPost_ret (v := .agg #[.slice none 0 0, .slice none 0 0, .slice none 0 0, .slice none 0 0, .slice none 0 0]) (by simp [results, Tryz.results48, go_sem, g0, g1, g2, g3, g4]) rfl ?_
      exact ⟨hbf, fun _ => none, rfl, fun k _ => (HX.out.1 k).symm, fun k c x _ h => by cases h⟩
    | some y =>
      obtain ⟨sl, p, q, m⟩ := y
      obtain ⟨-, hsl, hp64, hq64⟩ := Fr.parts_back hp
      have hml := parts_lenR hp
      obtain ⟨S, hS⟩ : ∃ S, Fr.val sl = S := ⟨_, rfl⟩
      have e0 : stOf (plainM M) f 0 = none := by unfold stOf; rw [if_neg hso, hp]
      have ek : ∀ k, stOf (plainM M) f (k + 1) = (M S k).reverse.findSome? (fun y => ledOf S p q m y.2) := fun k => by
        unfold stOf
        rw [if_neg hso, hp]
        simp only []
        rw [hS, findSome_plain]
        rfl
      have HX := hid (And.intro e0 (And.intro ek (And.intro hp (And.intro hS (And.intro hb hlen)))))
      have HK := hid hK
      clear hK hv hn hlen hb e0 ek hso hso' hb2 kA kB hp hS
      go_enter Tryz.func48, Tryz.ntmps48
      go_wp2_with (first
        | (go_at_call 35; refine HC.out.mono ?_; rintro e w1 ⟨hb1, -, he⟩; obtain ⟨n1, s1, rfl⟩ := he HV.out.2.2.2.2; have H1 := hid (And.intro hb1 (HV.out.2.1.trans (hb1.mono (by omega)))); clear hb1 he)
        | (go_at_call 46; refine (opened_any (U8 w) _ f _ (HV.out.1.below H1.out.2) (fun i h => by obtain ⟨c, fz, hc⟩ := h; have := lt_of_block hc; have := H1.out.2.size; omega) (by omega)).mono ?_; rintro e w3 ⟨hb3, he⟩; rw [HX.out.2.2.1] at he; obtain ⟨am, n, cm, rfl, hm3⟩ := he; rw [HX.out.2.2.2.1]; obtain ⟨W3, hW3⟩ : ∃ W, w3.alloc (.cells #[.int .u32 S, .int .u64 p, .int .u64 q, .slice (some am) n cm] 91) = W := ⟨_, rfl⟩; have hbx : Below (w.heap.size + 2) W2 w3 := (H1.out.1.mono (by omega)).trans (hb3.mono (by have := H1.out.1.size; omega)); have K3 := hid (StCtx.start (w := w) HK.out hW3 (H1.out.2.trans (hb3.mono H1.out.2.size)) ((hbx.block (w.heap.size + 1) (by omega)).trans HV.out.2.2.2.1) ((hbx.block w.heap.size (by omega)).trans HV.out.2.2.1) hm3); have hnew : w3.heap.size < W3.heap.size := (by rw [← hW3]; simp); obtain ⟨c0, c1, c2, c3, c4, cz⟩ := blk_five K3.out.out; obtain ⟨x0, x1, x2, x3, -⟩ := blk_four K3.out.d; clear hb3 hbx hm3; unfold dval))
      have HL : Hid (∀ (k : Nat) (kk : Int) (W : World) (x0 x1 x2 x3 x4 : Value), kk = (k : Int) → StCtx base r M w w3.heap.size S p q am n cm m W x0 x1 x2 x3 x4 → Calls Tryz.prog 99 #[.map (some r), .agg #[.int .u32 S, .int .u64 p, .int .u64 q, .slice (some am) n cm], .int .i64 kk] W (LedEnd (stOf (plainM M) f (k + 1)) W)) := fun k kk W x0 x1 x2 x3 x4 hkk hc => by
        rw [hkk, HX.out.2.1 k]
        exact led_keep hc.keep S p q k am n cm m (U8 w) (HX.out.2.2.2.2.2 S k) hc.mid (by omega) hp64 hq64
      refine wp_loop_rounds 5 ?_
      rw [rounds_succ]
      go_wp2_with (go_at_call 99; refine (HL.out 0 0 _ _ _ _ _ _ (by rfl) K3.out).mono ?_; rintro e u1 h1; obtain ⟨a1, l1, q1, f1, rfl, hc1, hm1, hs1, hb1⟩ := h1.cell (fun t ht => HX.out.2.2.2.2.1 1 t (by omega) ht); have P1 := hid (K3.out.on hb1); obtain ⟨y10, y11, y12, y13, y14, y1z⟩ := blk_five P1.out.out; have Q1 := hid (P1.out.put 1 (.slice a1 l1 q1) (set_five P1.out.out _).2.1); obtain ⟨z10, z11, z12, z13, z14, z1z⟩ := blk_five Q1.out.out; obtain ⟨d10, d11, d12, d13, -⟩ := blk_four Q1.out.d; have S1_1 := hid (StO.put hs1 P1.out.out (by decide) 1 (.slice a1 l1 q1)); have F1 := hid (And.intro hc1 hm1); clear hs1 hc1 hm1 h1 hb1)
      rw [rounds_succ]
      go_wp2_with (go_at_call 99; refine (HL.out 1 1 _ _ _ _ _ _ (by rfl) Q1.out).mono ?_; rintro e u2 h2; obtain ⟨a2, l2, q2, f2, rfl, hc2, hm2, hs2, hb2⟩ := h2.cell (fun t ht => HX.out.2.2.2.2.1 2 t (by omega) ht); have P2 := hid (Q1.out.on hb2); obtain ⟨y20, y21, y22, y23, y24, y2z⟩ := blk_five P2.out.out; have Q2 := hid (P2.out.put 2 (.slice a2 l2 q2) (set_five P2.out.out _).2.2.1); obtain ⟨z20, z21, z22, z23, z24, z2z⟩ := blk_five Q2.out.out; obtain ⟨d20, d21, d22, d23, -⟩ := blk_four Q2.out.d; have S2_2 := hid (StO.put hs2 P2.out.out (by decide) 2 (.slice a2 l2 q2)); have S1_2 := hid ((S1_1.out.on hb2).put (Q1.out.on hb2).out (by decide) 2 (.slice a2 l2 q2)); have F2 := hid (And.intro hc2 hm2); clear hs2 hc2 hm2 h2 hb2)
      rw [rounds_succ]
      go_wp2_with (go_at_call 99; refine (HL.out 2 2 _ _ _ _ _ _ (by rfl) Q2.out).mono ?_; rintro e u3 h3; obtain ⟨a3, l3, q3, f3, rfl, hc3, hm3, hs3, hb3⟩ := h3.cell (fun t ht => HX.out.2.2.2.2.1 3 t (by omega) ht); have P3 := hid (Q2.out.on hb3); obtain ⟨y30, y31, y32, y33, y34, y3z⟩ := blk_five P3.out.out; have Q3 := hid (P3.out.put 3 (.slice a3 l3 q3) (set_five P3.out.out _).2.2.2.1); obtain ⟨z30, z31, z32, z33, z34, z3z⟩ := blk_five Q3.out.out; obtain ⟨d30, d31, d32, d33, -⟩ := blk_four Q3.out.d; have S3_3 := hid (StO.put hs3 P3.out.out (by decide) 3 (.slice a3 l3 q3)); have S1_3 := hid ((S1_2.out.on hb3).put (Q2.out.on hb3).out (by decide) 3 (.slice a3 l3 q3)); have S2_3 := hid ((S2_2.out.on hb3).put (Q2.out.on hb3).out (by decide) 3 (.slice a3 l3 q3)); have F3 := hid (And.intro hc3 hm3); clear hs3 hc3 hm3 h3 hb3)
      rw [rounds_succ]
      go_wp2_with (go_at_call 99; refine (HL.out 3 3 _ _ _ _ _ _ (by rfl) Q3.out).mono ?_; rintro e u4 h4; obtain ⟨a4, l4, q4, f4, rfl, hc4, hm4, hs4, hb4⟩ := h4.cell (fun t ht => HX.out.2.2.2.2.1 4 t (by omega) ht); have P4 := hid (Q3.out.on hb4); obtain ⟨y40, y41, y42, y43, y44, y4z⟩ := blk_five P4.out.out; have Q4 := hid (P4.out.put 4 (.slice a4 l4 q4) (set_five P4.out.out _).2.2.2.2); obtain ⟨z40, z41, z42, z43, z44, z4z⟩ := blk_five Q4.out.out; obtain ⟨d40, d41, d42, d43, -⟩ := blk_four Q4.out.d; have S4_4 := hid (StO.put hs4 P4.out.out (by decide) 4 (.slice a4 l4 q4)); have S1_4 := hid ((S1_3.out.on hb4).put (Q3.out.on hb4).out (by decide) 4 (.slice a4 l4 q4)); have S2_4 := hid ((S2_3.out.on hb4).put (Q3.out.on hb4).out (by decide) 4 (.slice a4 l4 q4)); have S3_4 := hid ((S3_3.out.on hb4).put (Q3.out.on hb4).out (by decide) 4 (.slice a4 l4 q4)); have F4 := hid (And.intro hc4 hm4); clear hs4 hc4 hm4 h4 hb4)
      obtain ⟨r0, r1, r2, r3, r4, rz⟩ := blk_five Q4.out.res
      rw [rounds_succ]
      go_wp2
      have hfin := five_at Q4.out.res (.slice none 0 0) (.slice a1 l1 q1) (.slice a2 l2 q2) (.slice a3 l3 q3) (.slice a4 l4 q4)
      have hbf := five_below Q4.out.bel (Nat.le_refl _) (.slice none 0 0) (.slice a1 l1 q1) (.slice a2 l2 q2) (.slice a3 l3 q3) (.slice a4 l4 q4)
      have T1 := StO.five S1_4.out Q4.out.res (by decide) (.slice none 0 0) (.slice a1 l1 q1) (.slice a2 l2 q2) (.slice a3 l3 q3) (.slice a4 l4 q4)
      have T2 := StO.five S2_4.out Q4.out.res (by decide) (.slice none 0 0) (.slice a1 l1 q1) (.slice a2 l2 q2) (.slice a3 l3 q3) (.slice a4 l4 q4)
      have T3 := StO.five S3_4.out Q4.out.res (by decide) (.slice none 0 0) (.slice a1 l1 q1) (.slice a2 l2 q2) (.slice a3 l3 q3) (.slice a4 l4 q4)
      have T4 := StO.five S4_4.out Q4.out.res (by decide) (.slice none 0 0) (.slice a1 l1 q1) (.slice a2 l2 q2) (.slice a3 l3 q3) (.slice a4 l4 q4)
      unfold five at hfin hbf T1 T2 T3 T4
      obtain ⟨g0, g1, g2, g3, g4, -⟩ := blk_five hfin
      refine bodyPost_ret (v := .agg #[.slice none 0 0, .slice a1 l1 q1, .slice a2 l2 q2, .slice a3 l3 q3, .slice a4 l4 q4]) (by simp [results, Tryz.results48, go_sem, g0, g1, g2, g3, g4]) rfl ?_
      refine ⟨hbf, fun k => match k with | 0 => none | 1 => f1 | 2 => f2 | 3 => f3 | _ => f4, ?_, ?_, ?_⟩
      · show _ = Ending.returned (.agg #[cellO none, cellO f1, cellO f2, cellO f3, cellO f4])
        rw [F1.out.1, F2.out.1, F3.out.1, F4.out.1]
        rfl
      · intro k hk
        rcases (by omega : k = 0 ∨ k = 1 ∨ k = 2 ∨ k = 3 ∨ k = 4) with rfl | rfl | rfl | rfl | rfl
        · exact HX.out.1.symm
        · exact F1.out.2
        · exact F2.out.2
        · exact F3.out.2
        · exact F4.out.2
      · intro k c x hk hf
        rcases (by omega : k = 0 ∨ k = 1 ∨ k = 2 ∨ k = 3 ∨ k = 4) with rfl | rfl | rfl | rfl | rfl
        · cases hf
        · exact T1 c x hf
        · exact T2 c x hf
        · exact T3 c x hf
        · exact T4 c x hf

end Go.Proofs.YtfldcmdhneegmabGreatDoor

/-
  PLAIN: what stands behind a list of frames.
-/
namespace Go.Proofs.YtfldcmdhneegmabGreatDoor
namespace Fr
theorem apply_length {a d t : List UInt8} (h : okOf (applyOf a d) = some t) : t.length ≤ a.length + d.length := by
  unfold okOf at h
  split at h
  · rename_i h0
    obtain rfl := Option.some.inj h
    unfold applyOf at h0 ⊢
    split at h0
    · rename_i h1
      rw [if_pos h1]
      cases hp : parts d with
      | none => rw [hp] at h0; simp at h0
      | some x =>
        obtain ⟨s, p, q, m⟩ := x
        rw [hp] at h0
        simp only [] at h0 ⊢
        have hm : m.length ≤ d.length := by
          unfold parts at hp
          split at hp
          · cases hp
          · rename_i i hi
            split at hp
            · cases hp
            · split at hp
              · cases hp
              · rename_i p' r hr
                split at hp
                · cases hp
                · rename_i q' r' hr'
                  simp only [Option.some.injEq, Prod.mk.injEq] at hp
                  obtain ⟨-, -, -, rfl⟩ := hp
                  have e1 := congrArg List.length (rd_back hr).1
                  have e2 := congrArg List.length (rd_back hr').1
                  have e3 := congrArg List.length (sound_iff.1 hi)
                  simp [framed, sum_length] at e1 e2 e3
                  omega
        split at h0
        · cases h0
        · rename_i h2
          rw [if_neg h2]
          split at h0
          · cases h0
          · rename_i h3
            rw [if_neg h3]
            split at h0
            · rename_i h4
              rw [if_pos h4]
              simp
              omega
            · cases h0
    · cases h0
  · cases h
theorem lastOf_mem {f : Nat → Option (List UInt8)} {g : List UInt8 → Option (List UInt8)} {t : List UInt8} : ∀ {i : Nat}, lastOf f g i = some t → ∃ j s, j < i ∧ f j = some s ∧ g s = some t
  | 0, h => by cases h
  | i + 1, h => by
    unfold lastOf at h
    split at h
    · obtain ⟨j, s, hj, hf, hg⟩ := lastOf_mem h
      exact ⟨j, s, by omega, hf, hg⟩
    · rename_i s hs
      split at h
      · obtain ⟨j, s, hj, hf, hg⟩ := lastOf_mem h
        exact ⟨j, s, by omega, hf, hg⟩
      · rename_i t' ht
        obtain rfl := Option.some.inj h
        exact ⟨i, s, by omega, hs, ht⟩
theorem stands_length {fs : List (List UInt8)} {L : Nat} (hL : ∀ f ∈ fs, f.length ≤ L) : ∀ (n i : Nat) (s : List UInt8), stands fs n i = some s → s.length ≤ L * (n + 1) := by
  have hget : ∀ i, (fs.getD i []).length ≤ L := by
    intro i
    by_cases h : i < fs.length
    · have : fs.getD i [] = fs[i] := by simp [h]
      rw [this]
      exact hL _ (List.getElem_mem h)
    · have : fs.getD i [] = [] := by simp [Nat.not_lt.1 h]
      rw [this]; simp
  intro n
  induction n with
  | zero =>
    intro i s h
    unfold stands at h
    split at h
    · obtain rfl := Option.some.inj h
      have := hget i
      omega
    · cases h
  | succ n ih =>
    intro i s h
    unfold stands at h
    split at h
    · obtain rfl := Option.some.inj h
      have := hget i
      have h2 : L * 1 ≤ L * (n + 1 + 1) := Nat.mul_le_mul_left _ (by omega)
      omega
    · obtain ⟨j, s', hj, hf, hg⟩ := lastOf_mem h
      have h1 := ih j s' hf
      have h2 := apply_length hg
      have h3 := hget i
      have : L * (n + 1 + 1) = L * (n + 1) + L := by rw [Nat.mul_add, Nat.mul_one]
      omega
end Fr
end Go.Proofs.YtfldcmdhneegmabGreatDoor

/-
  RESOLVING, on plain data: what is kept by places gives what the document's Stands gives.
-/
namespace Go.Proofs.YtfldcmdhneegmabGreatDoor
open Go.RowKit Go.Lib Go.Shelf

theorem findSome_filter {α β : Type} (q : α → Bool) (f : α → Option β) : ∀ (l : List α), (∀ a ∈ l, q a = false → f a = none) → (l.filter q).findSome? f = l.findSome? f := by
  intro l
  induction l with
  | nil => intro _; rfl
  | cons a r ih =>
    intro h
    have ih' := ih (fun b hb => h b (List.mem_cons_of_mem _ hb))
    cases hq : q a with
    | true =>
      rw [List.filter_cons_of_pos (by simp [hq]), List.findSome?_cons, List.findSome?_cons, ih']
    | false =>
      rw [List.filter_cons_of_neg (by simp [hq]), List.findSome?_cons, h a (List.mem_cons_self ..) hq, ih']
theorem keepRow_find (ps : List (Value × List UInt8)) (c : Value) (x : List UInt8) (g : List UInt8 → Option (List UInt8)) : (keepRow ps c x).reverse.findSome? (fun p => g p.2) = match g x with
    | some t => some t
    | none => ps.reverse.findSome? (fun p => g p.2) := by
  unfold keepRow
  rw [List.reverse_append, List.reverse_singleton, List.singleton_append, List.findSome?_cons]
  cases hg : g x with
  | some t => simp
  | none =>
    simp only []
    rw [← List.filter_reverse]
    refine findSome_filter _ _ _ (fun a _ ha => ?_)
    have : a.2 = x := by simpa using ha
    rw [this, hg]
theorem keepM_at (M : Nat → Nat → List (Value × List UInt8)) (fo : Nat → Option (Value × List UInt8)) (s k : Nat) : ∀ n, keepM M fo n s k = if k < n then (match fo k with
    | none => M s k
    | some (c, x) => if Fr.val (Fr.last4 x) = s then keepRow (M s k) c x else M s k) else M s k := by
  intro n
  induction n with
  | zero => rfl
  | succ n ih =>
    have e : keepM M fo (n + 1) = (match fo n with
      | none => keepM M fo n
      | some (c, x) => updM (keepM M fo n) (Fr.val (Fr.last4 x)) n (keepRow (keepM M fo n (Fr.val (Fr.last4 x)) n) c x)) := rfl
    rw [e]
    by_cases hkn : k = n
    · subst hkn
      rw [if_neg (Nat.lt_irrefl _)] at ih
      rw [if_pos (Nat.lt_succ_self _)]
      cases hf : fo k with
      | none => exact ih
      | some y =>
        obtain ⟨c, x⟩ := y
        simp only []
        unfold updM
        by_cases hs : Fr.val (Fr.last4 x) = s
        · rw [if_pos ⟨hs.symm, rfl⟩, if_pos hs, hs, ih]
        · rw [if_neg (fun h => hs h.1.symm), if_neg hs, ih]
    · have e2 : (if k < n + 1 then (match fo k with
        | none => M s k
        | some (c, x) => if Fr.val (Fr.last4 x) = s then keepRow (M s k) c x else M s k) else M s k) = keepM M fo n s k := by
        rw [ih]
        by_cases hlt : k < n
        · rw [if_pos hlt, if_pos (by omega)]
        · rw [if_neg hlt, if_neg (by omega)]
      rw [e2]
      cases hf : fo n with
      | none => rfl
      | some y =>
        obtain ⟨c, x⟩ := y
        simp only []
        unfold updM
        rw [if_neg (fun h => hkn h.2)]
theorem keepRow_len (ps : List (Value × List UInt8)) (c : Value) (x : List UInt8) : (keepRow ps c x).length ≤ ps.length + 1 := by
  unfold keepRow
  rw [List.length_append]
  have := List.length_filter_le (fun p : Value × List UInt8 => !decide (p.2 = x)) ps
  simp only [List.length_cons, List.length_nil]
  omega
theorem keepM_len {M : Nat → Nat → List (Value × List UInt8)} {fo : Nat → Option (Value × List UInt8)} {b : Nat} (h : ∀ s k, (M s k).length ≤ b) (n s k : Nat) : (keepM M fo n s k).length ≤ b + 1 := by
  rw [keepM_at]
  have := h s k
  split
  · cases fo k with
    | none => simp only []; omega
    | some y =>
      obtain ⟨c, x⟩ := y
      simp only []
      split
      · have := keepRow_len (M s k) c x; omega
      · omega
  · omega

namespace Fr
theorem applyOf_sound {a d t : List UInt8} (h : okOf (applyOf a d) = some t) : (sound t 83).isSome = true := by
  unfold okOf at h
  split at h
  · rename_i h0
    obtain rfl := Option.some.inj h
    unfold applyOf at h0 ⊢
    split at h0
    · rename_i h1
      rw [if_pos h1]
      cases hp : parts d with
      | none => rw [hp] at h0; simp at h0
      | some x =>
        obtain ⟨s, p, q, m⟩ := x
        rw [hp] at h0
        simp only [] at h0 ⊢
        split at h0
        · cases h0
        · rename_i h2
          rw [if_neg h2]
          split at h0
          · cases h0
          · rename_i h3
            rw [if_neg h3]
            split at h0
            · rename_i h4
              rw [if_pos h4]
              exact h4.1
            · cases h0
    · cases h0
  · cases h
theorem stands_sound {fs : List (List UInt8)} : ∀ (n i : Nat) (s : List UInt8), stands fs n i = some s → (sound s 83).isSome = true := by
  intro n
  cases n with
  | zero =>
    intro i s h
    unfold stands at h
    split at h
    · rename_i h0
      obtain rfl := Option.some.inj h
      exact h0
    · cases h
  | succ n =>
    intro i s h
    unfold stands at h
    split at h
    · rename_i h0
      obtain rfl := Option.some.inj h
      exact h0
    · obtain ⟨j, s', -, -, hg⟩ := lastOf_mem h
      exact applyOf_sound hg
theorem lastOf_congr {f : Nat → Option (List UInt8)} {g g' : List UInt8 → Option (List UInt8)} (h : ∀ j s, f j = some s → g s = g' s) : ∀ i, lastOf f g i = lastOf f g' i := by
  intro i
  induction i with
  | zero => rfl
  | succ i ih =>
    unfold lastOf
    cases hf : f i with
    | none => exact ih
    | some s =>
      simp only []
      rw [h i s hf, ih]
theorem lastOf_none (f : Nat → Option (List UInt8)) : ∀ i, lastOf f (fun _ => none) i = none := by
  intro i
  induction i with
  | zero => rfl
  | succ i ih =>
    unfold lastOf
    cases hf : f i with
    | none => exact ih
    | some s => exact ih
end Fr

/-- What is kept, once i frames are seen. -/
def Inv (fs : List (List UInt8)) (i : Nat) (M : Nat → Nat → List (Value × List UInt8)) : Prop :=
  (∀ s k, (M s k).length ≤ i) ∧ ∀ s k, k < 5 → ∀ g : List UInt8 → Option (List UInt8), (∀ x, Fr.val (Fr.last4 x) ≠ s → g x = none) → (M s k).reverse.findSome? (fun p => g p.2) = Fr.lastOf (Fr.stands fs k) g i
theorem Inv.zero (fs : List (List UInt8)) : Inv fs 0 (fun _ _ => []) := ⟨fun _ _ => Nat.le_refl _, fun _ _ _ _ _ => rfl⟩
theorem Inv.succ {fs : List (List UInt8)} {i : Nat} {M : Nat → Nat → List (Value × List UInt8)} (h : Inv fs i M) {fo : Nat → Option (Value × List UInt8)} (hfo : ∀ k, k < 5 → (fo k).map (·.2) = Fr.stands fs k i) : Inv fs (i + 1) (keepM M fo 5) := by
  refine ⟨fun s k => keepM_len h.1 5 s k, fun s k hk g hg => ?_⟩
  rw [keepM_at, if_pos hk]
  have e := hfo k hk
  have ih := h.2 s k hk g hg
  show _ = (match Fr.stands fs k i with
    | none => Fr.lastOf (Fr.stands fs k) g i
    | some s => match g s with
      | none => Fr.lastOf (Fr.stands fs k) g i
      | some t => some t)
  rw [← e]
  cases hf : fo k with
  | none => exact ih
  | some y =>
    obtain ⟨c, x⟩ := y
    simp only [Option.map_some]
    by_cases hs : Fr.val (Fr.last4 x) = s
    · rw [if_pos hs, keepRow_find, ih]
      cases g x <;> rfl
    · rw [if_neg hs, hg x hs, ih]
theorem Inv.stOf {fs : List (List UInt8)} {i : Nat} {M : Nat → Nat → List (Value × List UInt8)} (h : Inv fs i M) (hL : ∀ f ∈ fs, f.length ≤ 65536) {f : List UInt8} (hf : fs.getD i [] = f) (k : Nat) (hk : k < 5) : stOf (plainM M) f k = Fr.stands fs k i := by
  unfold Go.Proofs.YtfldcmdhneegmabGreatDoor.stOf
  by_cases hso : (Fr.sound f 83).isSome = true
  · rw [if_pos hso]
    cases k with
    | zero => unfold Fr.stands; rw [hf, if_pos hso]
    | succ k => unfold Fr.stands; rw [hf, if_pos hso]
  · rw [if_neg hso]
    cases k with
    | zero =>
      unfold Fr.stands
      rw [hf, if_neg hso]
      cases Fr.parts f with
      | none => rfl
      | some y => rfl
    | succ k =>
      unfold Fr.stands
      rw [hf, if_neg hso]
      cases hp : Fr.parts f with
      | none =>
        simp only []
        have : (fun s => Fr.okOf (Fr.applyOf s f)) = fun _ => none := by
          funext s
          have e : Fr.applyOf s f = ([], 5) := by
            unfold Fr.applyOf
            rw [hp]
            split <;> rfl
          rw [e]
          rfl
        rw [this, Fr.lastOf_none]
      | some y =>
        obtain ⟨sl, p, q, m⟩ := y
        simp only []
        unfold plainM
        rw [← findSome_plain, h.2 (Fr.val sl) k (by omega) (ledOf (Fr.val sl) p q m) (fun x hx => by
          unfold ledOf Fr.applyIn Fr.okOf
          rw [if_pos (fun e => hx e.symm)]
          rfl)]
        refine Fr.lastOf_congr (fun j s hs => ?_) i
        have h1 := Fr.stands_sound k j s hs
        have h2 := Fr.stands_length hL k j s hs
        have h3 : 65536 * (k + 1) ≤ 65536 * 5 := Nat.mul_le_mul_left _ (by omega)
        unfold ledOf
        rw [Fr.applyOf_in h1 (sound_four h1) (by omega) hp]
theorem Inv.bounds {fs : List (List UInt8)} {i : Nat} {M : Nat → Nat → List (Value × List UInt8)} (h : Inv fs i M) (hL : ∀ f ∈ fs, f.length ≤ 65536) {f : List UInt8} (hf : fs.getD i [] = f) (k : Nat) (t : List UInt8) (hk : k < 5) (ht : Go.Proofs.YtfldcmdhneegmabGreatDoor.stOf (plainM M) f k = some t) : 5 ≤ t.length ∧ t.length ≤ 400000 := by
  rw [h.stOf hL hf k hk] at ht
  have h1 := Fr.stands_sound k i t ht
  have h2 := Fr.stands_length hL k i t ht
  have h3 : 65536 * (k + 1) ≤ 65536 * 5 := Nat.mul_le_mul_left _ (by omega)
  exact ⟨sound_four h1, by omega⟩

end Go.Proofs.YtfldcmdhneegmabGreatDoor

/-
  package chain's WALK of Resolve; bytes.Clone.
-/
namespace Go.Proofs.YtfldcmdhneegmabGreatDoor
open Go.RowKit Go.Lib Go.Shelf

set_option maxHeartbeats 1000000 in
set_option maxRecDepth 1000000 in
theorem bClone_any (F : Nat → Prop) (u : Value) (m : List UInt8) (w : World) (hu : BytesAt F w u m) (hm : m.length ≤ 100000000) :
    Calls Tryz.prog 50 #[u] w fun e w' => ∃ v', e = .returned v' ∧ w'.ownsRow w.heap.size 5 1 v' m.length (byteCells m) ∧ Below w.heap.size w w' := by
  obtain ⟨i0, hi, hz0, hz1, hz2⟩ := info_parts Tryz.infoByteW
  obtain ⟨ao, cap, rfl, -, -⟩ := RowAt.slice hu
  cases ao with
  | none =>
    have hm0 : m = [] ∧ cap = 0 := by
      rcases hu.2 with ⟨he, h0⟩ | ⟨b, o, cap', he, _⟩
      · injection he with h1 h2 h3
        exact ⟨List.eq_nil_of_length_eq_zero h2, h3⟩
      · cases he
    obtain ⟨rfl, rfl⟩ := hm0
    have hnil : ∀ W, (binOp .eql 25 (.slice none 0 0) (.slice none 0 0)).run Tryz.prog W = .ok (.bool true) W := fun W => Lib.run_eql_slice_nil W _ _ none _ _ _ _ Tryz.underlying25
    clear hu
    go_enter Tryz.func50, Tryz.ntmps50
    go_wp2
    go_ret
    exact ⟨_, rfl, ⟨rfl, Or.inl ⟨rfl, rfl⟩⟩, Below.refl _ _⟩
  | some a =>
    have HU := hid hu
    have hnil : ∀ W, (binOp .eql 25 (.slice (some a) m.length cap) (.slice none 0 0)).run Tryz.prog W = .ok (.bool false) W := fun W => Lib.run_eql_slice_nil W _ _ (some a) _ _ _ _ Tryz.underlying25
    clear hu
    go_enter Tryz.func50, Tryz.ntmps50
    go_wp2_with (at_builtin; refine wpList_append_row rfl _ _ 25 rfl w.heap.size 5 i0 (.int .u8 0) 1 1 Tryz.underlying25 hi hz0 hz1 hz2 rfl (by decide) _ 0 [] rfl (own_nothing (new_at rfl) (Nat.le_refl _)) F _ m.length (byteCells m) rfl (BytesAt.below HU.out ((Below.refl _ _).alloc (Nat.le_refl _) _)) (oneCell_bytes _) (by unfold maxLen; omega) (by omega) (by simp) ?_)
    intro v' w2 hown' hg
    have hb2 : Below w.heap.size w w2 := ((Below.refl _ w).alloc (Nat.le_refl _) _).grown hg (by simp) (fun k hk => by simp [Value.ownBlock] at hk; omega)
    have HB := hid (And.intro hown' hb2)
    clear hown' hg hb2
    go_wp2
    go_ret
    refine ⟨_, rfl, ?_, HB.out.2⟩
    have := HB.out.1
    simpa using this

/-- A row of frames. -/
def FrsAt (F : Nat → Prop) (w : World) (v : Value) (cs : List Value) (fs : List (List UInt8)) : Prop :=
  RowAt F w v 1 fs.length cs ∧ ∀ j (h : j < fs.length), ∃ c, cs[j]? = some c ∧ c ≠ .slice none 0 0 ∧ BytesAt (U8 w) w c fs[j]
theorem FrsAt.below {F : Nat → Prop} {w w' : World} {v : Value} {cs : List Value} {fs : List (List UInt8)} (h : FrsAt F w v cs fs) (hb : Below w.heap.size w w') : FrsAt F w' v cs fs := by
  refine ⟨RowAt.below h.1 hb, fun j hj => ?_⟩
  obtain ⟨c, h1, h2, h3⟩ := h.2 j hj
  exact ⟨c, h1, h2, RowAt.mono (BytesAt.below h3 hb) (fun i _ hi => by obtain ⟨c, fz, hh⟩ := hi; exact ⟨c, fz, (hb.block i (lt_of_block hh)).trans hh⟩)⟩
theorem FrsAt.get {F : Nat → Prop} {w : World} {ao : Option Addr} {n cap : Nat} {cs : List Value} {fs : List (List UInt8)} (h : FrsAt F w (.slice ao n cap) cs fs) {i : Nat} (hi : i < fs.length) : ∃ b o a' n' q', ao = some ⟨b, o, none⟩ ∧ w.cell? ⟨b, o + i, none⟩ = some (.slice (some a') n' q') ∧ BytesAt (U8 w) w (.slice (some a') n' q') fs[i] ∧ b < w.heap.size := by
  obtain ⟨c, h1, h2, h3⟩ := h.2 i hi
  obtain ⟨a', n', q', rfl⟩ := BytesAt.isSlice h3 h2
  rcases h.1.2 with ⟨_, h0⟩ | ⟨b, o, cap', he, _, hb, _, _, r⟩
  · omega
  · cases he
    exact ⟨b, o, a', n', q', rfl, r i _ h1, h3, hb⟩
theorem KeepAt.five {base : Nat} {w : World} {r : Nat} {M : Nat → Nat → List (Value × List UInt8)} (h : KeepAt base w r M) {b : Nat} {x y z u v : Value} {t : TypeId} (hb : w.heap[b]? = some (.cells #[x, y, z, u, v] t (0, 0))) (h1 : t ≠ 25) (h2 : t ≠ 5) (x' y' z' u' v' : Value) : KeepAt base (five w b x' y' z' u' v') r M := by
  have s1 := (set_five hb x').1
  have s2 := (set_five s1 y').2.1
  have s3 := (set_five s2 z').2.2.1
  have s4 := (set_five s3 u').2.2.2.1
  exact ((((h.set hb h1 h2 0 x').set s1 h1 h2 1 y').set s2 h1 h2 2 z').set s3 h1 h2 3 u').set s4 h1 h2 4 v'
/-- A block of five states, new and written. -/
theorem five_new {w1 W1 W2 : World} {x y z u v x' y' z' u' v' : Value} (hW1 : w1.alloc (.cells #[x, y, z, u, v] 114) = W1) (hW2 : five W1 w1.heap.size x' y' z' u' v' = W2) :
    (∀ c t, StAt w1 c t → StAt W2 c t) ∧ (∀ base r M, KeepAt base w1 r M → KeepAt base W2 r M) ∧ W2.heap[w1.heap.size]? = some (.cells #[x', y', z', u', v'] 114 (0, 0)) ∧ Below w1.heap.size w1 W2 := by
  subst hW1
  subst hW2
  have hb := heap_alloc_new w1 (.cells #[x, y, z, u, v] 114)
  have hbel : Below w1.heap.size w1 (w1.alloc (.cells #[x, y, z, u, v] 114)) := (Below.refl _ _).alloc (Nat.le_refl _) _
  refine ⟨fun c t h => ?_, fun base r M h => (h.below hbel).five hb (by decide) (by decide) _ _ _ _ _, five_at hb _ _ _ _ _, five_below hbel (Nat.le_refl _) _ _ _ _ _⟩
  have h' : StO (w1.alloc (.cells #[x, y, z, u, v] 114)) (some (c, t)) := fun c' t' e => by cases e; exact h.below hbel
  exact h'.five hb (by decide) x' y' z' u' v' c t rfl
/-- What newest is. -/
def NewAt (w : World) (v : Value) (t : List UInt8) : Prop := (v = .slice none 0 0 ∧ t = []) ∨ StAt w v t
theorem NewAt.bytes {w : World} {v : Value} {t : List UInt8} (h : NewAt w v t) : BytesAt (U8 w) w v t := by
  rcases h with ⟨rfl, rfl⟩ | h
  · exact ⟨rfl, Or.inl ⟨rfl, rfl⟩⟩
  · exact h.2.1
theorem NewAt.on {w w' : World} {v : Value} {t : List UInt8} (h : NewAt w v t) (hs : ∀ c t, StAt w c t → StAt w' c t) : NewAt w' v t := h.imp_right (hs v t)
theorem NewAt.slice {w : World} {v : Value} {t : List UInt8} (h : NewAt w v t) : t.length ≤ 400000 := by
  rcases h with ⟨-, rfl⟩ | h
  · simp
  · exact h.2.2.2
/-- What Resolve answers. -/
def ResolveEnd (t : List UInt8) (n : Int) (w : World) (e : Ending) (w' : World) : Prop :=
  ∃ v, e = .returned (.tuple #[v, .int .i64 n]) ∧ w'.ownsRow w.heap.size 5 1 v t.length (byteCells t) ∧ Below w.heap.size w w'

theorem cell_slice {w : World} (fo : Nat → Option (Value × List UInt8)) (hfo : ∀ k c x, k < 5 → fo k = some (c, x) → StAt w c x) (k : Nat) (hk : k < 5) : ∃ a n c, cellO (fo k) = .slice a n c := by
  cases hf : fo k with
  | none => exact ⟨_, _, _, rfl⟩
  | some y =>
    obtain ⟨c, x⟩ := y
    obtain ⟨h1, h2, -⟩ := hfo k c x hk hf
    obtain ⟨a, n, cc, h⟩ := BytesAt.isSlice h2 h1
    exact ⟨_, _, _, h⟩
theorem BytesAt.isRow {F : Nat → Prop} {w : World} {v : Value} {t : List UInt8} (h : BytesAt F w v t) : ∃ a n c, v = .slice a n c := by
  obtain ⟨ao, cap, rfl, -, -⟩ := RowAt.slice h
  exact ⟨_, _, _, rfl⟩

set_option maxHeartbeats 4000000 in
set_option maxRecDepth 1000000 in
theorem cResolve_any (F : Nat → Prop) (v : Value) (cs : List Value) (fs : List (List UInt8)) (w : World) (hv : FrsAt F w v cs fs) (hL : ∀ f ∈ fs, f.length ≤ 65536) (hfl : fs.length ≤ 100) :
    Calls Tryz.prog 22 #[v] w (ResolveEnd (Fr.resolve fs).1 (Fr.resolve fs).2 w) := by
  obtain ⟨ao, cap, rfl, -, -⟩ := RowAt.slice hv.1
  have HV := hid hv
  clear hv
  obtain ⟨W0, hW0⟩ : ∃ W, w.alloc (.map #[] 0) = W := ⟨_, rfl⟩
  have hmk : (Instr.makeMap 112 none).run Tryz.prog w = .ok (.map (some w.heap.size)) W0 := by rw [← hW0]; rfl
  have hb0 : Below w.heap.size w W0 := by rw [← hW0]; exact (Below.refl _ _).alloc (Nat.le_refl _) _
  have hK0 : KeepAt w.heap.size W0 w.heap.size (fun _ _ => []) := by
    refine ⟨[], ⟨#[], 0, by rw [← hW0]; exact heap_alloc_new _ _, [], rfl, rfl⟩, fun s k => ⟨⟨rfl, Or.inl ⟨rfl, rfl⟩⟩, fun p hp => by cases hp⟩, fun _ _ _ _ _ => Or.inl rfl⟩
  have H0 := hid (And.intro hb0 hK0)
  clear hW0 hb0 hK0
  go_enter Tryz.func22, Tryz.ntmps22
  go_wp2
  go_loopw [5, 6, 14] (fun a b c wr => ∃ (i : Nat) (M : Nat → Nat → List (Value × List UInt8)), i ≤ fs.length ∧ c = .int .i64 i ∧ b = .int .i64 (Fr.resolveTo fs i).2 ∧ Hid (NewAt wr a (Fr.resolveTo fs i).1 ∧ KeepAt w.heap.size wr w.heap.size M ∧ Inv fs i M ∧ Below w.heap.size w wr)) (fun _ _ c _ => fs.length - (intOf c).toNat)
  case atStart => exact ⟨0, _, by omega, rfl, rfl, Or.inl ⟨rfl, rfl⟩, H0.out.2, Inv.zero fs, H0.out.1⟩
  case round =>
    obtain ⟨i, M, hi, rfl, rfl, hr⟩ := hrel
    by_cases hlt : i < fs.length
    · have hlt' : (i : Int) < fs.length := by omega
      obtain ⟨b, o, af, nf, qf, rfl, hc, hf, hbl⟩ := (HV.out.below hr.out.2.2.2).get hlt
      have hgd : fs.getD i [] = fs[i] := by simp [hlt]
      have HS := hid (statesOf_any w.heap.size w.heap.size M _ fs[i] wr hr.out.2.1 hf (by intro e; cases e) (hL _ (List.getElem_mem hlt)) (fun s k => by have := hr.out.2.2.1.1 s k; omega) (fun k t hk ht => hr.out.2.2.1.bounds hL hgd k t hk ht))
      clear hf
      go_wp2_with (first
        | (go_at_call 48; refine HS.out.mono ?_; rintro e w1 ⟨hb1, fo, rfl, ho1, ho2⟩; obtain ⟨a0, n0, q0, h0⟩ := cell_slice fo ho2 0 (by omega); obtain ⟨a1, n1, q1, h1⟩ := cell_slice fo ho2 1 (by omega); obtain ⟨a2, n2, q2, h2⟩ := cell_slice fo ho2 2 (by omega); obtain ⟨a3, n3, q3, h3⟩ := cell_slice fo ho2 3 (by omega); obtain ⟨a4, n4, q4, h4⟩ := cell_slice fo ho2 4 (by omega); rw [h0, h1, h2, h3, h4]; obtain ⟨W1, hW1⟩ : ∃ W, w1.alloc (.cells #[.slice none 0 0, .slice none 0 0, .slice none 0 0, .slice none 0 0, .slice none 0 0] 114) = W := ⟨_, rfl⟩; have kB : W1.heap[w1.heap.size]? = some (.cells #[.slice none 0 0, .slice none 0 0, .slice none 0 0, .slice none 0 0, .slice none 0 0] 114 (0, 0)) := (by rw [← hW1]; exact heap_alloc_new _ _); have hlt1 := lt_of_block kB; obtain ⟨c0, c1, c2, c3, c4, cz⟩ := blk_five kB; obtain ⟨W2, hW2⟩ : ∃ W, five W1 w1.heap.size (.slice a0 n0 q0) (.slice a1 n1 q1) (.slice a2 n2 q2) (.slice a3 n3 q3) (.slice a4 n4 q4) = W := ⟨_, rfl⟩; have HN := hid (five_new hW1 hW2); obtain ⟨d0, d1, d2, d3, d4, dz⟩ := blk_five HN.out.2.2.1; have hlt2 := lt_of_block HN.out.2.2.1; unfold five at hW2; have H1 := hid (And.intro hb1 (And.intro ho1 (And.intro ho2 (And.intro h0 (And.intro h1 (And.intro h2 (And.intro h3 h4))))))); clear hb1 ho1 ho2 h0 h1 h2 h3 h4 kB)
        | (go_at_call 49; rw [← H1.out.2.2.2.1, ← H1.out.2.2.2.2.1, ← H1.out.2.2.2.2.2.1, ← H1.out.2.2.2.2.2.2.1, ← H1.out.2.2.2.2.2.2.2]; refine (keep_any w.heap.size w.heap.size M fo W2 (HN.out.2.1 _ _ _ (hr.out.2.1.below H1.out.1)) (Nat.le_refl _) (by have := H1.out.1.size; have := hr.out.2.2.2.size; omega) (fun k c x hk hf => HN.out.1 c x (H1.out.2.2.1 k c x hk hf)) (fun k s n _ => by have := keepM_len (fo := fo) hr.out.2.2.1.1 k s n; omega)).mono ?_; rintro e w3 ⟨rfl, hk3, kt3, hb3⟩; obtain ⟨g0, g1, g2, g3, g4, gz⟩ := blk_five ((kt3.2 _ _ _ _ HN.out.2.2.1 (by decide)).trans HN.out.2.2.1); have hlt3 : w1.heap.size < w3.heap.size := Nat.lt_of_lt_of_le hlt2 kt3.1; have H3 := hid (And.intro hk3 (And.intro kt3 hb3)); clear hk3 kt3 hb3))
      all_goals
        rename_i hcond
        have hst : ∀ c t, StAt wr c t → StAt w3 c t := fun c t h => H3.out.2.1.st (HN.out.1 c t (h.below H1.out.1))
        have hInv := hr.out.2.2.1.succ (fo := fo) (fun k hk => (H1.out.2.1 k hk).trans (hr.out.2.2.1.stOf hL hgd k hk))
        have h4 := (H1.out.2.1 4 (by omega)).trans (hr.out.2.2.1.stOf hL hgd 4 (by omega))
        have hbel : Below w.heap.size w w3 := ((hr.out.2.2.2.trans (H1.out.1.mono hr.out.2.2.2.size)).trans (HN.out.2.2.2.mono (by have := H1.out.1.size; have := hr.out.2.2.2.size; omega))).trans H3.out.2.2
        have e1 : Fr.resolveTo fs (i + 1) = match Fr.stands fs 4 i with
          | some s => (s, (i : Int))
          | none => Fr.resolveTo fs i := rfl
        rw [← h4] at e1
      · cases hf4 : fo 4 with
        | none =>
          have := H1.out.2.2.2.2.2.2.2
          rw [hf4] at this
          unfold cellO at this
          injection this with h1 h2 h3
          rw [← h1] at hcond
          cases hcond
        | some y =>
          obtain ⟨c, x⟩ := y
          have hc := H1.out.2.2.2.2.2.2.2
          rw [hf4] at hc e1
          have hc' : c = .slice a4 n4 q4 := hc
          have e1' : Fr.resolveTo fs (i + 1) = (x, (i : Int)) := e1
          refine ⟨⟨i + 1, keepM M fo 5, by omega, by go_num, by rw [e1'], ?_, H3.out.1, hInv, hbel⟩, by simp [intOf]; omega⟩
          rw [e1', ← hc']
          exact Or.inr (H3.out.2.1.st (HN.out.1 c x (H1.out.2.2.1 4 c x (by omega) hf4)))
      · cases hf4 : fo 4 with
        | none =>
          rw [hf4] at e1
          have e1' : Fr.resolveTo fs (i + 1) = Fr.resolveTo fs i := e1
          refine ⟨⟨i + 1, keepM M fo 5, by omega, by go_num, by rw [e1'], ?_, H3.out.1, hInv, hbel⟩, by simp [intOf]; omega⟩
          rw [e1']
          exact hr.out.1.on hst
        | some y =>
          obtain ⟨c, x⟩ := y
          have hc := H1.out.2.2.2.2.2.2.2
          rw [hf4] at hc
          have hc' : c = .slice a4 n4 q4 := hc
          obtain ⟨h1, h2, -⟩ := H1.out.2.2.1 4 c x (by omega) hf4
          obtain ⟨a', n', q', h⟩ := BytesAt.isSlice h2 h1
          rw [h] at hc'
          injection hc' with k1 k2 k3
          rw [← k1] at hcond
          cases hcond
    · obtain rfl : i = fs.length := by omega
      obtain ⟨sa, ns, qs, hs⟩ := BytesAt.isRow hr.out.1.bytes
      subst hs
      go_wp2_with (go_at_call 50; refine (bClone_any (U8 wr) _ _ wr hr.out.1.bytes (by have := hr.out.1.slice; omega)).mono ?_; rintro e w1 ⟨v1, rfl, ho1, hb1⟩; have H1 := hid (And.intro ho1 hb1); clear ho1 hb1)
      go_ret2
      exact ⟨_, rfl, own_mono H1.out.1 hr.out.2.2.2.size, hr.out.2.2.2.trans (H1.out.2.mono hr.out.2.2.2.size)⟩

set_option maxHeartbeats 2000000 in
set_option maxRecDepth 1000000 in
theorem sResolve_any (F : Nat → Prop) (v : Value) (cs : List Value) (fs : List (List UInt8)) (w : World) (hv : FrsAt F w v cs fs) (hL : ∀ f ∈ fs, f.length ≤ 65536) (hfl : fs.length ≤ 100) :
    Calls Tryz.prog 11 #[v] w (ResolveEnd (Fr.resolve fs).1 (Fr.resolve fs).2 w) := by
  have HC := hid (cResolve_any F v cs fs w hv hL hfl)
  obtain ⟨ao, cap, rfl, -, -⟩ := RowAt.slice hv.1
  clear hv
  go_enter Tryz.func11, Tryz.ntmps11
  go_wp2_with (go_at_call 22; refine HC.out.mono ?_; rintro e w1 ⟨v1, rfl, ho1, hb1⟩; obtain ⟨a1, c1, rfl⟩ := own_slice ho1; have H1 := hid (And.intro ho1 hb1); clear ho1 hb1)
  go_ret2
  exact ⟨_, rfl, H1.out.1, H1.out.2⟩

end Go.Proofs.YtfldcmdhneegmabGreatDoor

/-
  What a frame that is nil gives: nothing.
-/
namespace Go.Proofs.YtfldcmdhneegmabGreatDoor
open Go.RowKit Go.Lib

set_option maxHeartbeats 4000000 in
set_option maxRecDepth 1000000 in
theorem statesOf_nil (r : Nat) (M : Nat → Nat → List (Value × List UInt8)) (w : World) :
    Calls Tryz.prog 48 #[.map (some r), .slice none 0 0] w (StatesEnd (stOf (plainM M) []) w) := by
  have hv : BytesAt (U8 w) w (.slice none 0 0) [] := ⟨rfl, Or.inl ⟨rfl, rfl⟩⟩
  obtain ⟨W2, hW2⟩ : ∃ W, (w.alloc (.cells #[.slice none 0 0, .slice none 0 0, .slice none 0 0, .slice none 0 0, .slice none 0 0] 114)).alloc (.cells #[.slice none 0 0, .slice none 0 0, .slice none 0 0, .slice none 0 0, .slice none 0 0] 114) = W := ⟨_, rfl⟩
  have hb2 : Below w.heap.size w W2 := by rw [← hW2]; exact ((Below.refl _ _).alloc (Nat.le_refl _) _).alloc (by simp) _
  have hsz2 : W2.heap.size = w.heap.size + 2 := by rw [← hW2]; simp
  have kA : W2.heap[w.heap.size]? = some (.cells #[.slice none 0 0, .slice none 0 0, .slice none 0 0, .slice none 0 0, .slice none 0 0] 114 (0, 0)) := by rw [← hW2]; exact (Below.heap_alloc _ _ _ (by simp)).trans (heap_alloc_new w _)
  have kB : W2.heap[w.heap.size + 1]? = some (.cells #[.slice none 0 0, .slice none 0 0, .slice none 0 0, .slice none 0 0, .slice none 0 0] 114 (0, 0)) := by rw [← hW2]; exact new_at (by simp)
  have HC := hid (fCheckS_any (U8 w) _ [] W2 (hv.below hb2) (by simp))
  have hs0 : Fr.sound [] 83 = none := by rfl
  have hp : Fr.parts [] = none := by rfl
  have hso : ¬ (Fr.sound [] 83).isSome = true := by rw [hs0]; simp
  have hso' : (Fr.sound [] 83).isSome = false := by rw [hs0]; rfl
  have HV := hid (And.intro hv (And.intro hb2 (And.intro kA (And.intro kB hso'))))
  have e1 : ∀ k, stOf (plainM M) [] k = none := fun k => by unfold stOf; rw [if_neg hso, hp]
  have HX := hid (And.intro e1 hp)
  clear hv e1 hso hso' hb2 kA kB hp hs0
  go_enter Tryz.func48, Tryz.ntmps48
  go_wp2_with (first
    | (go_at_call 35; refine HC.out.mono ?_; rintro e w1 ⟨hb1, -, he⟩; obtain ⟨n1, s1, rfl⟩ := he HV.out.2.2.2.2; have H1 := hid (And.intro hb1 (HV.out.2.1.trans (hb1.mono (by omega)))); clear hb1 he)
    | (go_at_call 46; refine (opened_any (U8 w) _ [] _ (HV.out.1.below H1.out.2) (fun i h => by obtain ⟨c, fz, hc⟩ := h; have := lt_of_block hc; have := H1.out.2.size; omega) (by simp)).mono ?_; rintro e w3 ⟨hb3, he⟩; rw [HX.out.2] at he; obtain ⟨n3, s3, rfl⟩ := he; have hbx : Below (w.heap.size + 2) W2 w3 := (H1.out.1.mono (by omega)).trans (hb3.mono (by have := H1.out.1.size; omega)); have j1 := (hbx.block (w.heap.size + 1) (by omega)).trans HV.out.2.2.2.1; have j0 := (hbx.block w.heap.size (by omega)).trans HV.out.2.2.1; have hlt3 : w.heap.size + 1 < w3.heap.size := lt_of_block j1; have hlt3' : w.heap.size < w3.heap.size := lt_of_block j0; obtain ⟨c0, c1, c2, c3, c4, cz⟩ := blk_five j1; obtain ⟨d0, d1, d2, d3, d4, dz⟩ := blk_five j0; have H3 := hid (And.intro (H1.out.2.trans (hb3.mono H1.out.2.size)) (And.intro j0 j1)); clear hb3 hbx j0 j1; unfold dval))
  have hfin0 := five_at H3.out.2.1 (.slice none 0 0) (.slice none 0 0) (.slice none 0 0) (.slice none 0 0) (.slice none 0 0)
  have hfin := (Below.heap_alloc _ (.cells #[.int .u32 0, .int .u64 0, .int .u64 0, .slice none 0 0] 91) _ (lt_of_block hfin0)).trans hfin0
  have hbf := (five_below H3.out.1 (Nat.le_refl _) (.slice none 0 0) (.slice none 0 0) (.slice none 0 0) (.slice none 0 0) (.slice none 0 0)).alloc (Nat.le_of_lt (lt_of_block hfin0)) (.cells #[.int .u32 0, .int .u64 0, .int .u64 0, .slice none 0 0] 91)
  unfold five at hfin hbf
  obtain ⟨g0, g1, g2, g3, g4, -⟩ := blk_five hfin
  refine bodyPost_ret (v := .agg #[.slice none 0 0, .slice none 0 0, .slice none 0 0, .slice none 0 0, .slice none 0 0]) (by simp [results, Tryz.results48, go_sem, g0, g1, g2, g3, g4]) rfl ?_
  exact ⟨hbf, fun _ => none, rfl, fun k _ => (HX.out.1 k).symm, fun k c x _ h => by cases h⟩

end Go.Proofs.YtfldcmdhneegmabGreatDoor

/-
  Resolve of frames of which some may be nil.
-/
namespace Go.Proofs.YtfldcmdhneegmabGreatDoor
open Go.RowKit Go.Lib

/-- A row of frames, some of which may be nil. -/
def FrsN (F : Nat → Prop) (w : World) (v : Value) (cs : List Value) (fs : List (List UInt8)) : Prop :=
  RowAt F w v 1 fs.length cs ∧ ∀ j (h : j < fs.length), ∃ c, cs[j]? = some c ∧ ((c = .slice none 0 0 ∧ fs[j] = []) ∨ (c ≠ .slice none 0 0 ∧ BytesAt (U8 w) w c fs[j]))
theorem FrsN.below {F : Nat → Prop} {w w' : World} {v : Value} {cs : List Value} {fs : List (List UInt8)} (h : FrsN F w v cs fs) (hb : Below w.heap.size w w') : FrsN F w' v cs fs := by
  refine ⟨RowAt.below h.1 hb, fun j hj => ?_⟩
  obtain ⟨c, h1, h2 | ⟨h2, h3⟩⟩ := h.2 j hj
  · exact ⟨c, h1, Or.inl h2⟩
  · exact ⟨c, h1, Or.inr ⟨h2, RowAt.mono (BytesAt.below h3 hb) (fun i _ hi => by obtain ⟨c, fz, hh⟩ := hi; exact ⟨c, fz, (hb.block i (lt_of_block hh)).trans hh⟩)⟩⟩
theorem FrsN.get {F : Nat → Prop} {w : World} {ao : Option Addr} {n cap : Nat} {cs : List Value} {fs : List (List UInt8)} (h : FrsN F w (.slice ao n cap) cs fs) {i : Nat} (hi : i < fs.length) : ∃ b o a' n' q', ao = some ⟨b, o, none⟩ ∧ w.cell? ⟨b, o + i, none⟩ = some (.slice a' n' q') ∧ ((a' = none ∧ n' = 0 ∧ q' = 0 ∧ fs[i] = []) ∨ (Value.slice a' n' q' ≠ .slice none 0 0 ∧ BytesAt (U8 w) w (.slice a' n' q') fs[i])) ∧ b < w.heap.size := by
  obtain ⟨c, h1, h2⟩ := h.2 i hi
  rcases h.1.2 with ⟨_, h0⟩ | ⟨b, o, cap', he, _, hb, _, _, r⟩
  · omega
  · cases he
    rcases h2 with ⟨rfl, h3⟩ | ⟨h3, h4⟩
    · exact ⟨b, o, none, 0, 0, rfl, r i _ h1, Or.inl ⟨rfl, rfl, rfl, h3⟩, hb⟩
    · obtain ⟨a', n', q', rfl⟩ := BytesAt.isSlice h4 h3
      exact ⟨b, o, some a', n', q', rfl, r i _ h1, Or.inr ⟨h3, h4⟩, hb⟩

set_option maxHeartbeats 4000000 in
set_option maxRecDepth 1000000 in
theorem cResolve_nil (F : Nat → Prop) (v : Value) (cs : List Value) (fs : List (List UInt8)) (w : World) (hv : FrsN F w v cs fs) (hL : ∀ f ∈ fs, f.length ≤ 65536) (hfl : fs.length ≤ 100) :
    Calls Tryz.prog 22 #[v] w (ResolveEnd (Fr.resolve fs).1 (Fr.resolve fs).2 w) := by
  obtain ⟨ao, cap, rfl, -, -⟩ := RowAt.slice hv.1
  have HV := hid hv
  clear hv
  obtain ⟨W0, hW0⟩ : ∃ W, w.alloc (.map #[] 0) = W := ⟨_, rfl⟩
  have hmk : (Instr.makeMap 112 none).run Tryz.prog w = .ok (.map (some w.heap.size)) W0 := by rw [← hW0]; rfl
  have hb0 : Below w.heap.size w W0 := by rw [← hW0]; exact (Below.refl _ _).alloc (Nat.le_refl _) _
  have hK0 : KeepAt w.heap.size W0 w.heap.size (fun _ _ => []) := by
    refine ⟨[], ⟨#[], 0, by rw [← hW0]; exact heap_alloc_new _ _, [], rfl, rfl⟩, fun s k => ⟨⟨rfl, Or.inl ⟨rfl, rfl⟩⟩, fun p hp => by cases hp⟩, fun _ _ _ _ _ => Or.inl rfl⟩
  have H0 := hid (And.intro hb0 hK0)
  clear hW0 hb0 hK0
  go_enter Tryz.func22, Tryz.ntmps22
  go_wp2
  go_loopw [5, 6, 14] (fun a b c wr => ∃ (i : Nat) (M : Nat → Nat → List (Value × List UInt8)), i ≤ fs.length ∧ c = .int .i64 i ∧ b = .int .i64 (Fr.resolveTo fs i).2 ∧ Hid (NewAt wr a (Fr.resolveTo fs i).1 ∧ KeepAt w.heap.size wr w.heap.size M ∧ Inv fs i M ∧ Below w.heap.size w wr)) (fun _ _ c _ => fs.length - (intOf c).toNat)
  case atStart => exact ⟨0, _, by omega, rfl, rfl, Or.inl ⟨rfl, rfl⟩, H0.out.2, Inv.zero fs, H0.out.1⟩
  case round =>
    obtain ⟨i, M, hi, rfl, rfl, hr⟩ := hrel
    by_cases hlt : i < fs.length
    · have hlt' : (i : Int) < fs.length := by omega
      obtain ⟨b, o, af, nf, qf, rfl, hc, hf, hbl⟩ := (HV.out.below hr.out.2.2.2).get hlt
      have hgd : fs.getD i [] = fs[i] := by simp [hlt]
      have HS : Hid (Calls Tryz.prog 48 #[.map (some w.heap.size), .slice af nf qf] wr (StatesEnd (stOf (plainM M) fs[i]) wr)) := by
        rcases hf with ⟨rfl, rfl, rfl, he⟩ | ⟨hne, hf⟩
        · rw [he]
          exact statesOf_nil w.heap.size M wr
        · exact statesOf_any w.heap.size w.heap.size M _ fs[i] wr hr.out.2.1 hf hne (hL _ (List.getElem_mem hlt)) (fun s k => by have := hr.out.2.2.1.1 s k; omega) (fun k t hk ht => hr.out.2.2.1.bounds hL hgd k t hk ht)
      clear hf
      go_wp2_with (first
        | (go_at_call 48; refine HS.out.mono ?_; rintro e w1 ⟨hb1, fo, rfl, ho1, ho2⟩; obtain ⟨a0, n0, q0, h0⟩ := cell_slice fo ho2 0 (by omega); obtain ⟨a1, n1, q1, h1⟩ := cell_slice fo ho2 1 (by omega); obtain ⟨a2, n2, q2, h2⟩ := cell_slice fo ho2 2 (by omega); obtain ⟨a3, n3, q3, h3⟩ := cell_slice fo ho2 3 (by omega); obtain ⟨a4, n4, q4, h4⟩ := cell_slice fo ho2 4 (by omega); rw [h0, h1, h2, h3, h4]; obtain ⟨W1, hW1⟩ : ∃ W, w1.alloc (.cells #[.slice none 0 0, .slice none 0 0, .slice none 0 0, .slice none 0 0, .slice none 0 0] 114) = W := ⟨_, rfl⟩; have kB : W1.heap[w1.heap.size]? = some (.cells #[.slice none 0 0, .slice none 0 0, .slice none 0 0, .slice none 0 0, .slice none 0 0] 114 (0, 0)) := (by rw [← hW1]; exact heap_alloc_new _ _); have hlt1 := lt_of_block kB; obtain ⟨c0, c1, c2, c3, c4, cz⟩ := blk_five kB; obtain ⟨W2, hW2⟩ : ∃ W, five W1 w1.heap.size (.slice a0 n0 q0) (.slice a1 n1 q1) (.slice a2 n2 q2) (.slice a3 n3 q3) (.slice a4 n4 q4) = W := ⟨_, rfl⟩; have HN := hid (five_new hW1 hW2); obtain ⟨d0, d1, d2, d3, d4, dz⟩ := blk_five HN.out.2.2.1; have hlt2 := lt_of_block HN.out.2.2.1; unfold five at hW2; have H1 := hid (And.intro hb1 (And.intro ho1 (And.intro ho2 (And.intro h0 (And.intro h1 (And.intro h2 (And.intro h3 h4))))))); clear hb1 ho1 ho2 h0 h1 h2 h3 h4 kB)
        | (go_at_call 49; rw [← H1.out.2.2.2.1, ← H1.out.2.2.2.2.1, ← H1.out.2.2.2.2.2.1, ← H1.out.2.2.2.2.2.2.1, ← H1.out.2.2.2.2.2.2.2]; refine (keep_any w.heap.size w.heap.size M fo W2 (HN.out.2.1 _ _ _ (hr.out.2.1.below H1.out.1)) (Nat.le_refl _) (by have := H1.out.1.size; have := hr.out.2.2.2.size; omega) (fun k c x hk hf => HN.out.1 c x (H1.out.2.2.1 k c x hk hf)) (fun k s n _ => by have := keepM_len (fo := fo) hr.out.2.2.1.1 k s n; omega)).mono ?_; rintro e w3 ⟨rfl, hk3, kt3, hb3⟩; obtain ⟨g0, g1, g2, g3, g4, gz⟩ := blk_five ((kt3.2 _ _ _ _ HN.out.2.2.1 (by decide)).trans HN.out.2.2.1); have hlt3 : w1.heap.size < w3.heap.size := Nat.lt_of_lt_of_le hlt2 kt3.1; have H3 := hid (And.intro hk3 (And.intro kt3 hb3)); clear hk3 kt3 hb3))
      all_goals
        rename_i hcond
        have hst : ∀ c t, StAt wr c t → StAt w3 c t := fun c t h => H3.out.2.1.st (HN.out.1 c t (h.below H1.out.1))
        have hInv := hr.out.2.2.1.succ (fo := fo) (fun k hk => (H1.out.2.1 k hk).trans (hr.out.2.2.1.stOf hL hgd k hk))
        have h4 := (H1.out.2.1 4 (by omega)).trans (hr.out.2.2.1.stOf hL hgd 4 (by omega))
        have hbel : Below w.heap.size w w3 := ((hr.out.2.2.2.trans (H1.out.1.mono hr.out.2.2.2.size)).trans (HN.out.2.2.2.mono (by have := H1.out.1.size; have := hr.out.2.2.2.size; omega))).trans H3.out.2.2
        have e1 : Fr.resolveTo fs (i + 1) = match Fr.stands fs 4 i with
          | some s => (s, (i : Int))
          | none => Fr.resolveTo fs i := rfl
        rw [← h4] at e1
      · cases hf4 : fo 4 with
        | none =>
          have := H1.out.2.2.2.2.2.2.2
          rw [hf4] at this
          unfold cellO at this
          injection this with h1 h2 h3
          rw [← h1] at hcond
          cases hcond
        | some y =>
          obtain ⟨c, x⟩ := y
          have hc := H1.out.2.2.2.2.2.2.2
          rw [hf4] at hc e1
          have hc' : c = .slice a4 n4 q4 := hc
          have e1' : Fr.resolveTo fs (i + 1) = (x, (i : Int)) := e1
          refine ⟨⟨i + 1, keepM M fo 5, by omega, by go_num, by rw [e1'], ?_, H3.out.1, hInv, hbel⟩, by simp [intOf]; omega⟩
          rw [e1', ← hc']
          exact Or.inr (H3.out.2.1.st (HN.out.1 c x (H1.out.2.2.1 4 c x (by omega) hf4)))
      · cases hf4 : fo 4 with
        | none =>
          rw [hf4] at e1
          have e1' : Fr.resolveTo fs (i + 1) = Fr.resolveTo fs i := e1
          refine ⟨⟨i + 1, keepM M fo 5, by omega, by go_num, by rw [e1'], ?_, H3.out.1, hInv, hbel⟩, by simp [intOf]; omega⟩
          rw [e1']
          exact hr.out.1.on hst
        | some y =>
          obtain ⟨c, x⟩ := y
          have hc := H1.out.2.2.2.2.2.2.2
          rw [hf4] at hc
          have hc' : c = .slice a4 n4 q4 := hc
          obtain ⟨h1, h2, -⟩ := H1.out.2.2.1 4 c x (by omega) hf4
          obtain ⟨a', n', q', h⟩ := BytesAt.isSlice h2 h1
          rw [h] at hc'
          injection hc' with k1 k2 k3
          rw [← k1] at hcond
          cases hcond
    · obtain rfl : i = fs.length := by omega
      obtain ⟨sa, ns, qs, hs⟩ := BytesAt.isRow hr.out.1.bytes
      subst hs
      go_wp2_with (go_at_call 50; refine (bClone_any (U8 wr) _ _ wr hr.out.1.bytes (by have := hr.out.1.slice; omega)).mono ?_; rintro e w1 ⟨v1, rfl, ho1, hb1⟩; have H1 := hid (And.intro ho1 hb1); clear ho1 hb1)
      go_ret2
      exact ⟨_, rfl, own_mono H1.out.1 hr.out.2.2.2.size, hr.out.2.2.2.trans (H1.out.2.mono hr.out.2.2.2.size)⟩

set_option maxHeartbeats 2000000 in
set_option maxRecDepth 1000000 in
theorem sResolve_nil (F : Nat → Prop) (v : Value) (cs : List Value) (fs : List (List UInt8)) (w : World) (hv : FrsN F w v cs fs) (hL : ∀ f ∈ fs, f.length ≤ 65536) (hfl : fs.length ≤ 100) :
    Calls Tryz.prog 11 #[v] w (ResolveEnd (Fr.resolve fs).1 (Fr.resolve fs).2 w) := by
  have HC := hid (cResolve_nil F v cs fs w hv hL hfl)
  obtain ⟨ao, cap, rfl, -, -⟩ := RowAt.slice hv.1
  clear hv
  go_enter Tryz.func11, Tryz.ntmps11
  go_wp2_with (go_at_call 22; refine HC.out.mono ?_; rintro e w1 ⟨v1, rfl, ho1, hb1⟩; obtain ⟨a1, c1, rfl⟩ := own_slice ho1; have H1 := hid (And.intro ho1 hb1); clear ho1 hb1)
  go_ret2
  exact ⟨_, rfl, H1.out.1, H1.out.2⟩

end Go.Proofs.YtfldcmdhneegmabGreatDoor
