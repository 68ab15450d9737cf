import Derived.Lib.IsU
import Derived.Lib.RuneBytes
import Derived.Lib.DecodeN
import Derived.Test.YtfldcmdhneegmaaGreatDoorProg
import Derived.WalkKit
import Derived.Lib.OthersKept
import Derived.Test.YtfldcmdhneegmaaGreatDoorBase

/-
  PLAIN: what package pattern's reader does, rune by rune, as a function on plain data; no program in it.
-/
namespace Go.Proofs.YtfldcmdhneegmaaGreatDoor
namespace Pl
open Go.Lib

/-- Where the reader stands, the steps so far, the window so far. -/
structure St where
  pl : Int
  l : List (Int × Bool)
  win : Int

def St.init : St := { pl := 0, l := [], win := 0 }

/-- The last step gets its plus. -/
def plusLast : List (Int × Bool) → List (Int × Bool)
  | [] => []
  | [x] => [(x.1, true)]
  | x :: y :: r => x :: plusLast (y :: r)

def addPlus (s : St) : Option St := if s.pl = 1 then some { s with pl := 2, l := plusLast s.l } else none
def addStep (s : St) (c : Int) : Option St := if s.pl = 0 ∧ s.l.length ≠ 4 then some { s with pl := 1, l := s.l ++ [(c, false)] } else none
def addDigit (s : St) (d : Int) : Option St :=
  if s.pl = 5 then none else if s.pl = 4 ∧ s.win = 0 then none else if s.win * 10 + d ≤ 9999 then some { s with pl := 4, win := s.win * 10 + d } else none
def takeSteps (s : St) (c : Int) : Option St :=
  if c = 32 then some { s with pl := 0 }
  else if c = 43 then addPlus s
  else if c = 47 then (if 0 < s.l.length then some { s with pl := 3 } else none)
  else if isLetterU c then addStep s c else none
def takeWindow (s : St) (c : Int) : Option St :=
  if c = 32 then some (if s.pl = 4 then { s with pl := 5 } else s)
  else if 48 ≤ c ∧ c ≤ 57 then addDigit s (c - 48) else none
def take (s : St) (c : Int) : Option St := if s.pl = 0 ∨ s.pl = 1 ∨ s.pl = 2 then takeSteps s c else takeWindow s c

/-- A code point that has a UTF-8 form. -/
def Valid (c : Int) : Prop := (0 ≤ c ∧ c < 55296) ∨ (57343 < c ∧ c ≤ 1114111)

set_option maxHeartbeats 1000000 in
theorem decodeN_valid (n b0 b1 b2 b3 : Nat) (h0 : b0 < 256) : Valid (decodeN n b0 b1 b2 b3).1 := by
  unfold decodeN Valid
  repeat' split
  all_goals (simp only []; omega)
theorem decode_valid (s : ByteArray) (i : Nat) : Valid (Utf8.decode s i).1 := by
  rw [decode_at]
  exact decodeN_valid _ _ _ _ _ (UInt8.toNat_lt _)

/-- What holds of every state that is reached. -/
structure Ok (s : St) : Prop where
  p0 : 0 ≤ s.pl
  p5 : s.pl ≤ 5
  l4 : s.l.length ≤ 4
  w0 : 0 ≤ s.win
  w9 : s.win ≤ 9999
  one : 1 ≤ s.pl → s.l ≠ []
  ltr : ∀ x ∈ s.l, isLetterU x.1 = true ∧ Valid x.1

theorem plusLast_length (l : List (Int × Bool)) : (plusLast l).length = l.length := by
  induction l with
  | nil => rfl
  | cons x r ih =>
    cases r with
    | nil => rfl
    | cons y r => simpa [plusLast] using ih

theorem plusLast_ne {l : List (Int × Bool)} (h : l ≠ []) : plusLast l ≠ [] := by
  intro e
  have := plusLast_length l
  rw [e] at this
  exact h (List.length_eq_zero_iff.1 this.symm)
theorem plusLast_fst (l : List (Int × Bool)) : (plusLast l).map (·.1) = l.map (·.1) := by
  induction l with
  | nil => rfl
  | cons x r ih =>
    cases r with
    | nil => rfl
    | cons y r => simpa [plusLast] using ih
theorem all_plus {l : List (Int × Bool)} (h : ∀ x ∈ l, isLetterU x.1 = true ∧ Valid x.1) : ∀ x ∈ plusLast l, isLetterU x.1 = true ∧ Valid x.1 := by
  intro x hx
  have h1 : x.1 ∈ (plusLast l).map (·.1) := List.mem_map_of_mem hx
  rw [plusLast_fst] at h1
  obtain ⟨y, hy, e⟩ := List.mem_map.1 h1
  rw [← e]
  exact h y hy

theorem ok_init : Ok St.init := ⟨by decide, by decide, by decide, by decide, by decide, by decide, by simp [St.init]⟩

theorem ok_take {s s' : St} {c : Int} (h : Ok s) (hv : Valid c) (e : take s c = some s') : Ok s' := by
  obtain ⟨p0, p5, l4, w0, w9, one, lt⟩ := h
  unfold take takeSteps takeWindow addPlus addStep addDigit at e
  split at e
  · split at e
    · cases e; exact ⟨by simp, by simp, l4, w0, w9, by simp, lt⟩
    · split at e
      · split at e
        · cases e; exact ⟨by simp, by simp, by simpa [plusLast_length] using l4, w0, w9, fun _ => plusLast_ne (one (by omega)), all_plus lt⟩
        · cases e
      · split at e
        · split at e
          · rename_i hl; cases e; exact ⟨by simp, by simp, l4, w0, w9, fun _ => List.length_pos_iff.1 hl, lt⟩
          · cases e
        · split at e
          · rename_i hlet
            split at e
            · cases e
              refine ⟨by simp, by simp, by simp; omega, w0, w9, by simp, ?_⟩
              intro x hx
              rcases List.mem_append.1 hx with h1 | h1
              · exact lt x h1
              · rw [List.mem_singleton.1 h1]; exact ⟨hlet, hv⟩
            · cases e
          · cases e
  · split at e
    · cases e
      split
      · exact ⟨by simp, by simp, l4, w0, w9, fun _ => one (by omega), lt⟩
      · exact ⟨p0, p5, l4, w0, w9, one, lt⟩
    · split at e
      · split at e
        · cases e
        · split at e
          · cases e
          · split at e
            · cases e; exact ⟨by simp, by simp, l4, by simp; omega, by simpa using ‹_›, fun _ => one (by omega), lt⟩
            · cases e
      · cases e

/-- The runes of a text, from place pos on, taken one by one: 'none': one of them has no place there. -/
def runFrom (s : ByteArray) : Nat → Nat → St → Option St
  | 0, _, st => some st
  | fuel + 1, pos, st => if pos < s.size then (match take st (Utf8.decode s pos).1 with
      | none => none
      | some st' => runFrom s fuel (pos + (Utf8.decode s pos).2) st') else some st

def complete (s : St) : Bool := decide (s.pl = 4 ∨ s.pl = 5)

/-- package pattern's Parse of a text of at most 60 bytes: its steps and its window. -/
def parse (s : ByteArray) : Option (List (Int × Bool) × Int) :=
  match runFrom s s.size 0 St.init with
  | none => none
  | some st => if complete st then some (st.l, st.win) else none

theorem ok_run (s : ByteArray) (fuel pos : Nat) (st st' : St) (h : Ok st) (e : runFrom s fuel pos st = some st') : Ok st' := by
  induction fuel generalizing pos st with
  | zero => cases e; exact h
  | succ f ih =>
    unfold runFrom at e
    split at e
    · generalize hq : take st (Utf8.decode s pos).1 = q at e
      cases q with
      | none => cases e
      | some st1 => exact ih _ _ (ok_take h (decode_valid s pos) hq) e
    · cases e; exact h

/-- What is parsed: one to four steps, letters; a window from 0 to 9999. -/
structure Fine (l : List (Int × Bool)) (win : Int) : Prop where
  ne : l ≠ []
  l4 : l.length ≤ 4
  w0 : 0 ≤ win
  w9 : win ≤ 9999
  ltr : ∀ x ∈ l, isLetterU x.1 = true ∧ Valid x.1

theorem fine_parse {s : ByteArray} {l : List (Int × Bool)} {win : Int} (e : parse s = some (l, win)) : Fine l win := by
  unfold parse at e
  generalize hq : runFrom s s.size 0 St.init = q at e
  cases q with
  | none => cases e
  | some st =>
    have ho := ok_run s _ _ _ _ ok_init hq
    simp only at e
    split at e
    · rename_i hc
      cases e
      unfold complete at hc
      have hc' := of_decide_eq_true hc
      exact ⟨ho.one (by omega), ho.l4, ho.w0, ho.w9, ho.ltr⟩
    · cases e

end Pl
end Go.Proofs.YtfldcmdhneegmaaGreatDoor

/-
  PARTS: the reader in memory.
-/
namespace Go.Proofs.YtfldcmdhneegmaaGreatDoor
open Go.RowKit Go.Lib

/-- The steps as cells. -/
def stepCells (l : List (Int × Bool)) : List Value := l.flatMap fun x => [.int .i32 x.1, .bool x.2]
theorem stepCells_length (l : List (Int × Bool)) : (stepCells l).length = l.length * 2 := by
  induction l with
  | nil => rfl
  | cons x r ih => simp [stepCells] at ih ⊢; omega

/-- The reader in block b; its steps are a row of the call's own, from 'base' on. -/
structure Rd (b base : Nat) (s : Pl.St) (v : Value) (w : World) : Prop where
  blk : w.heap[b]? = some (.cells #[.int .i64 s.pl, v, .int .i64 s.win] 236 (0, 0))
  own : w.ownsRow base 225 2 v s.l.length (stepCells s.l)
  lt : b < base
  le : base ≤ w.heap.size

theorem Rd.c0 {b base : Nat} {s : Pl.St} {v : Value} {w : World} (h : Rd b base s v w) : w.cell? ⟨b, 0, none⟩ = some (.int .i64 s.pl) := by simp [World.cell?, h.blk]
theorem Rd.c1 {b base : Nat} {s : Pl.St} {v : Value} {w : World} (h : Rd b base s v w) : w.cell? ⟨b, 1, none⟩ = some v := by simp [World.cell?, h.blk]
theorem Rd.c2 {b base : Nat} {s : Pl.St} {v : Value} {w : World} (h : Rd b base s v w) : w.cell? ⟨b, 2, none⟩ = some (.int .i64 s.win) := by simp [World.cell?, h.blk]
theorem Rd.fz {b base : Nat} {s : Pl.St} {v : Value} {w : World} (h : Rd b base s v w) (o : Nat) : w.frozen? ⟨b, o, none⟩ = false := by simp [World.frozen?, h.blk]

/-- What a call leaves of all but the reader and its steps. -/
structure Kept (b : Nat) (w w' : World) : Prop where
  below : Below b w w'
  others : OthersKept 225 (some b) w w'

theorem Kept.refl (b : Nat) (w : World) : Kept b w w := ⟨Below.refl _ _, OthersKept.refl _ _ _⟩
theorem Kept.trans {b : Nat} {a c d : World} (h : Kept b a c) (k : Kept b c d) : Kept b a d := ⟨h.below.trans k.below, h.others.trans k.others⟩
theorem Kept.setCell {b : Nat} {a w : World} (h : Kept b a w) (o : Nat) (u : Value) : Kept b a (w.setCell ⟨b, o, none⟩ u) :=
  ⟨h.below.setCell (Nat.le_refl _) u, h.others.setCell _ rfl u⟩

/-- What a call that takes a rune leaves. -/
def After (b base : Nat) (r : Option Pl.St) (w : World) (e : Ending) (w' : World) : Prop :=
  Kept b w w' ∧ match r with
    | none => e = .returned (.bool false)
    | some s => e = .returned (.bool true) ∧ ∃ v, Rd b base s v w'

theorem blk_set {w : World} {b : Nat} {x y z : Value} {t : TypeId} (h : w.heap[b]? = some (.cells #[x, y, z] t (0, 0))) (u : Value) :
    (w.setCell ⟨b, 0, none⟩ u).heap[b]? = some (.cells #[u, y, z] t (0, 0)) ∧ (w.setCell ⟨b, 1, none⟩ u).heap[b]? = some (.cells #[x, u, z] t (0, 0)) ∧ (w.setCell ⟨b, 2, none⟩ u).heap[b]? = some (.cells #[x, y, u] t (0, 0)) := by
  have hlt := lt_of_block h
  have h' : w.heap[b] = .cells #[x, y, z] t (0, 0) := by simpa [Array.getElem?_eq_getElem hlt] using h
  refine ⟨?_, ?_, ?_⟩
  all_goals
    show (w.heap.modify b _)[b]? = _
    rw [Array.getElem?_eq_getElem (by simpa using hlt), Array.getElem_modify_self, h']
    rfl

theorem Rd.setPl {b base : Nat} {s : Pl.St} {v : Value} {w : World} (h : Rd b base s v w) (p : Int) : Rd b base { s with pl := p } v (w.setCell ⟨b, 0, none⟩ (.int .i64 p)) :=
  ⟨(blk_set h.blk _).1, ownsRow_setCell_below h.own h.lt _, h.lt, by simpa [World.setCell] using h.le⟩
theorem Rd.setWin {b base : Nat} {s : Pl.St} {v : Value} {w : World} (h : Rd b base s v w) (x : Int) : Rd b base { s with win := x } v (w.setCell ⟨b, 2, none⟩ (.int .i64 x)) :=
  ⟨(blk_set h.blk _).2.2, ownsRow_setCell_below h.own h.lt _, h.lt, by simpa [World.setCell] using h.le⟩

end Go.Proofs.YtfldcmdhneegmaaGreatDoor
