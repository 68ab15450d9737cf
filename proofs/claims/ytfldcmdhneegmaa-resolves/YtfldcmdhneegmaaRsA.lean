/-
  A MAP WHOSE KEYS ARE PLACES (a sum, a number of deltas): looking up and storing.
-/
import Derived.Test.YtfldcmdhneegmaaVals
import Derived.Laws.StructEq
import Derived.MapKept
namespace Go.Proofs.Ytfldcmdhneegmaa
open Go.RowKit Go.Lib

/-- A place, as a value. -/
def pk (s k : Nat) : Value := .agg #[.int .u32 s, .int .i64 k]
theorem Try.fieldsPlace : Try.prog.underlying 55 = some (.struct (Try.prog.fieldsOf 55)) := by kernel_rfl
theorem Try.heldPlace : Try.prog.stoodInHeld 55 = false := by kernel_rfl
set_option maxRecDepth 100000 in
theorem eq_place (s k s' k' : Nat) (w : World) : (Op.equal 55 (pk s k) (pk s' k')).run Try.prog w = .ok (decide (s = s' ∧ k = k')) w := by
  have h := run_equalIn_struct (P := Try.prog) w 9999 55 #[.int .u32 s, .int .i64 k] #[.int .u32 s', .int .i64 k'] Try.fieldsPlace Try.heldPlace
  have hm : (Try.prog.fieldsOf 55).toList.map (fun f => (f.name, f.type, f.offset)) = [("sum", 46, 0), ("within", 3, 1)] := by kernel_rfl
  have hf : ∃ f g, (Try.prog.fieldsOf 55).toList = [f, g] ∧ f.name = "sum" ∧ f.type = 46 ∧ f.offset = 0 ∧ g.name = "within" ∧ g.type = 3 ∧ g.offset = 1 := by
    generalize (Try.prog.fieldsOf 55).toList = fs at hm
    obtain ⟨f, r1, rfl, h1, hm⟩ := List.map_eq_cons_iff.1 hm
    obtain ⟨g, r2, rfl, h2, hm⟩ := List.map_eq_cons_iff.1 hm
    obtain rfl := List.map_eq_nil_iff.1 hm
    simp only [Prod.mk.injEq] at h1 h2
    exact ⟨f, g, rfl, h1.1, h1.2.1, h1.2.2, h2.1, h2.2.1, h2.2.2⟩
  obtain ⟨f, g, hf, f1, f2, f3, g1, g2, g3⟩ := hf
  unfold Op.equal Op.maxDepth pk
  rw [h, hf]
  have p1 : ∀ (x y : Value), (part 46 #[x, y] 0).run Try.prog w = .ok x w := fun x y => by kernel_rfl
  have p2 : ∀ (x y : Value), (part 3 #[x, y] 1).run Try.prog w = .ok y w := fun x y => by kernel_rfl
  have q1 := run_equalIn_int (P := Try.prog) w 9998 46 .u32 .u32 s s' Try.underlying46
  have q2 := run_equalIn_int (P := Try.prog) w 9998 3 .i64 .i64 k k' Try.underlying3
  by_cases hs : s = s'
  · subst hs
    simp [Op.eqFields, f1, f2, f3, g1, g2, g3, p1, p2, q1, q2, Result.andThen]
    by_cases hk : k = k'
    · subst hk; simp
    · simp [hk]
      omega
  · simp [Op.eqFields, f1, f2, f3, g1, g2, g3, p1, p2, q1, q2, Result.andThen, hs]
    intro e
    omega
theorem Try.checkPlace (b : Bool) (s k : Nat) (w : World) : (Instr.checkKey b 10000 55 (pk s k)).run Try.prog w = .ok () w := by kernel_rfl

/-- What is kept: at each place a value. -/
abbrev Ent := Nat × Nat × Value
def entOf (e : Ent) (b : Nat) : MapEntry := { key := pk e.1 e.2.1, val := e.2.2, born := b }
/-- The map's entries. -/
def EntsAt (es : List MapEntry) (l : List Ent) : Prop := ∃ bs : List Nat, bs.length = l.length ∧ es = (l.zip bs).map fun x => entOf x.1 x.2
/-- Where a place is, and what lies there. -/
def findE (s k : Nat) : List Ent → Nat → Option (Nat × Value)
  | [], _ => none
  | e :: r, i => if s = e.1 ∧ k = e.2.1 then some (i, e.2.2) else findE s k r (i + 1)
def valE (s k : Nat) (l : List Ent) : Value := ((findE s k l 0).map (·.2)).getD (.slice none 0 0)
theorem find_place (s k : Nat) (w : World) : ∀ (l : List Ent) (es : List MapEntry) (i : Nat), EntsAt es l → (Instr.findAsking 55 (pk s k) es i).run Try.prog w = .ok (findE s k l i) w := by
  intro l
  induction l with
  | nil =>
    rintro es i ⟨bs, hb, rfl⟩
    simp [Instr.findAsking, findE]
  | cons e r ih =>
    rintro es i ⟨bs, hb, rfl⟩
    cases bs with
    | nil => simp at hb
    | cons b bs =>
      have h2 := ih _ (i + 1) ⟨bs, by simpa using hb, rfl⟩
      simp only [List.zip_cons_cons, List.map_cons, Instr.findAsking, Sem.run_bind]
      have h3 : (entOf e b).key = pk e.1 e.2.1 := rfl
      rw [h3, eq_place]
      simp only [Result.andThen]
      unfold findE
      by_cases h : s = e.1 ∧ k = e.2.1
      · rw [if_pos h, decide_eq_true h]
        rfl
      · rw [if_neg h, decide_eq_false h]
        exact h2
theorem findKey_place (s k : Nat) (w : World) (l : List Ent) (es : List MapEntry) (h : EntsAt es l) : (Instr.findKey 55 (pk s k) es).run Try.prog w = .ok (findE s k l 0) w := by
  unfold Instr.findKey
  simp only [Sem.run_bind, run_underlying Try.fieldsPlace, Result.andThen]
  obtain ⟨bs, hb, rfl⟩ := h
  cases l with
  | nil => simp [Instr.findNow, findE]
  | cons e r =>
    cases bs with
    | nil => simp at hb
    | cons b bs =>
      have : Instr.findNow (.struct (Try.prog.fieldsOf 55)) (pk s k) (((e :: r).zip (b :: bs)).map fun x => entOf x.1 x.2) 0 = none := rfl
      rw [this]
      exact find_place s k w (e :: r) _ 0 ⟨b :: bs, hb, rfl⟩
theorem Try.zeroRow (w : World) : (zeroValue 23).run Try.prog w = .ok (.slice none 0 0) w := by kernel_rfl
/-- The map in memory. -/
def MapAt (w : World) (r : Nat) (l : List Ent) : Prop := ∃ es clock, w.heap[r]? = some (.map es clock) ∧ EntsAt es.toList l
theorem run_look {w : World} {r : Nat} {l : List Ent} (h : MapAt w r l) (s k : Nat) : (Instr.lookup 33 (.map (some r)) (pk s k) false).run Try.prog w = .ok (valE s k l) w := by
  obtain ⟨es, clock, hb, he⟩ := h
  unfold Instr.lookup
  simp only [Sem.run_bind, run_underlying Try.underlying33, Result.andThen, MapKept.run_getObj_map hb, Sem.run_pure, Try.checkPlace, findKey_place s k w l _ he]
  unfold valE
  cases hf : findE s k l 0 with
  | none => simp
  | some x => simp

end Go.Proofs.Ytfldcmdhneegmaa
