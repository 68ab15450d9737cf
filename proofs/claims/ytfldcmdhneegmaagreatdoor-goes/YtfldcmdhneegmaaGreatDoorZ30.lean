import Derived.Test.YtfldcmdhneegmaaGreatDoorZ29
import Derived.Shelf.Unicode.DecodeSlow

/-
  PLAIN: what the document's own answer (package spotterref) does with a text, on lists of bytes.
-/
namespace Go.Proofs.YtfldcmdhneegmaaGreatDoor
namespace Pl
open Go.Lib

/-- A text without the spaces in front. -/
def sp (l : List UInt8) : List UInt8 := l.dropWhile fun b => b == 32

theorem sp_cons32 (r : List UInt8) : sp (32 :: r) = sp r := by simp [sp]
theorem sp_cons {b : UInt8} (r : List UInt8) (h : b ≠ 32) : sp (b :: r) = b :: r := by simp [sp, h]
theorem sp_length (l : List UInt8) : (sp l).length ≤ l.length := by
  induction l with
  | nil => simp [sp]
  | cons b r ih =>
    by_cases h : b = 32
    · subst h; rw [sp_cons32]; simp; omega
    · rw [sp_cons r h]; exact Nat.le_refl _
theorem sp_head (l : List UInt8) : (sp l).head? ≠ some 32 := by
  induction l with
  | nil => simp [sp]
  | cons b r ih =>
    by_cases h : b = 32
    · subst h; rw [sp_cons32]; exact ih
    · rw [sp_cons r h]; simpa using h

def isDig (b : UInt8) : Bool := decide (48 ≤ b.toNat ∧ b.toNat ≤ 57)
/-- The digits in front, at most five: how many. -/
def digs : Nat → List UInt8 → Nat
  | 0, _ => 0
  | _ + 1, [] => 0
  | f + 1, b :: r => if isDig b then digs f r + 1 else 0
/-- Their number. -/
def numOf (l : List UInt8) : Int := l.foldl (fun n b => 10 * n + ((b.toNat : Int) - 48)) 0
/-- The window of a text that is nothing else but spaces behind it; -1: it is none. -/
def winOf (l : List UInt8) : Int :=
  let t := sp l
  let k := digs 5 t
  if k = 0 ∨ 4 < k ∨ (1 < k ∧ t.head? = some 48) ∨ sp (t.drop k) ≠ [] then -1 else numOf (t.take k)

/-- The steps and the window, from a place where a step must begin. -/
def refLoop : Nat → List UInt8 → List (Int × Bool) → Option (List (Int × Bool) × Int)
  | 0, _, _ => none
  | f + 1, s, acc =>
    if s = [] ∨ isLetterU (Utf8.decode ⟨s.toArray⟩ 0).1 = false ∨ acc.length = 4 then none else
      let s1 := s.drop (Utf8.decode ⟨s.toArray⟩ 0).2
      let plus := s1.head? == some 43
      let s2 := if plus then s1.drop 1 else s1
      let acc' := acc ++ [(((Utf8.decode ⟨s.toArray⟩ 0).1 : Int), plus)]
      if (sp s2).head? = some 47 then (if winOf ((sp s2).drop 1) < 0 then none else some (acc', winOf ((sp s2).drop 1)))
      else if s2.head? = some 32 then refLoop f (sp s2) acc' else none

/-! ### the reader over a list of bytes -/
def runB : Nat → List UInt8 → St → Option St
  | 0, _, st => some st
  | f + 1, l, st => if l = [] then some st else match take st (Utf8.decode ⟨l.toArray⟩ 0).1 with
    | none => none
    | some st' => runB f (l.drop (Utf8.decode ⟨l.toArray⟩ 0).2) st'

theorem runB_succ (f : Nat) (l : List UInt8) (st : St) : runB (f + 1) l st = (if l = [] then some st else match take st (Utf8.decode ⟨l.toArray⟩ 0).1 with
    | none => none
    | some st' => runB f (l.drop (Utf8.decode ⟨l.toArray⟩ 0).2) st') := rfl

theorem decode_drop (pre l : List UInt8) : Utf8.decode ⟨(pre ++ l).toArray⟩ pre.length = Utf8.decode ⟨l.toArray⟩ 0 := by
  have g0 := get_at' pre l 0
  rw [Nat.add_zero] at g0
  have k0 := get_at' [] l 0
  have k1 := get_at' [] l 1
  have k2 := get_at' [] l 2
  have k3 := get_at' [] l 3
  simp only [List.nil_append, List.length_nil] at k0 k1 k2 k3
  rw [decode_at, decode_at, g0, get_at', get_at', get_at']
  rw [Nat.zero_add, Nat.zero_add, Nat.zero_add] at *
  rw [k0, k1, k2, k3]
  congr 1
  simp [ByteArray.size]

theorem runFrom_runB (l : List UInt8) (fuel pos : Nat) (st : St) (hp : pos ≤ l.length) : runFrom ⟨l.toArray⟩ fuel pos st = runB fuel (l.drop pos) st := by
  induction fuel generalizing pos st with
  | zero => rfl
  | succ f ih =>
    unfold runFrom runB
    by_cases h : pos < l.length
    · rw [if_pos (by simpa [ByteArray.size] using h), if_neg (by intro e; have := congrArg List.length e; simp at this; omega)]
      have hd : Utf8.decode ⟨l.toArray⟩ pos = Utf8.decode ⟨(l.drop pos).toArray⟩ 0 := by
        have := decode_drop (l.take pos) (l.drop pos)
        rw [List.take_append_drop, List.length_take, Nat.min_eq_left hp] at this
        exact this
      rw [hd]
      generalize Utf8.decode ⟨(l.drop pos).toArray⟩ 0 = q
      obtain ⟨c, n⟩ := q
      simp only []
      cases take st (c : Int) with
      | none => rfl
      | some st' =>
        simp only []
        rw [List.drop_drop]
        by_cases h2 : pos + n ≤ l.length
        · exact ih _ _ h2
        · rw [List.drop_eq_nil_of_le (by omega)]
          cases f with
          | zero => rfl
          | succ f =>
            unfold runFrom runB
            rw [if_neg (by simp [ByteArray.size]; omega), if_pos rfl]
    · rw [if_neg (by simpa [ByteArray.size] using h), if_pos (List.drop_eq_nil_of_le (by omega))]

/-! ### the first rune of a text -/
theorem dec_ascii (b : UInt8) (r : List UInt8) (h : b.toNat < 128) : Utf8.decode ⟨(b :: r).toArray⟩ 0 = (b.toNat, 1) := by
  have k0 := get_at' [] (b :: r) 0
  simp only [List.nil_append, List.length_nil] at k0
  rw [decode_at, k0]
  exact decodeN_one _ _ _ _ _ h
theorem dec_high (b : UInt8) (r : List UInt8) (h : 128 ≤ b.toNat) : 128 ≤ (Utf8.decode ⟨(b :: r).toArray⟩ 0).1 ∧ 1 ≤ (Utf8.decode ⟨(b :: r).toArray⟩ 0).2 :=
  decode_high ⟨(b :: r).toArray⟩ 0 (by simp [ByteArray.size]) h
theorem dec_width (b : UInt8) (r : List UInt8) : 1 ≤ (Utf8.decode ⟨(b :: r).toArray⟩ 0).2 := by
  by_cases h : b.toNat < 128
  · rw [dec_ascii b r h]; exact Nat.le_refl _
  · exact (dec_high b r (by omega)).2
/-- What the first rune is where it is below 128. -/
theorem dec_low {b : UInt8} {r : List UInt8} (h : (Utf8.decode ⟨(b :: r).toArray⟩ 0).1 < 128) : b.toNat < 128 ∧ (Utf8.decode ⟨(b :: r).toArray⟩ 0).1 = b.toNat ∧ (Utf8.decode ⟨(b :: r).toArray⟩ 0).2 = 1 := by
  by_cases hb : b.toNat < 128
  · rw [dec_ascii b r hb]; exact ⟨hb, rfl, rfl⟩
  · have := (dec_high b r (by omega)).1
    omega

/-- More fuel than bytes does not matter. -/
theorem runB_fuel (l : List UInt8) (f g : Nat) (st : St) (hf : l.length ≤ f) (hg : l.length ≤ g) : runB f l st = runB g l st := by
  induction f generalizing l g st with
  | zero =>
    have h0 : l = [] := List.length_eq_zero_iff.1 (by omega)
    subst h0
    cases g with
    | zero => rfl
    | succ g => rfl
  | succ f ih =>
    cases l with
    | nil =>
      cases g with
      | zero => rfl
      | succ g => rfl
    | cons b r =>
      obtain ⟨g, rfl⟩ : ∃ g', g = g' + 1 := ⟨g - 1, by simp at hg; omega⟩
      have hw := dec_width b r
      unfold runB
      rw [if_neg (by simp), if_neg (by simp)]
      cases take st (Utf8.decode ⟨(b :: r).toArray⟩ 0).1 with
      | none => rfl
      | some st' =>
        simp only []
        exact ih _ _ _ (by simp at hf ⊢; omega) (by simp at hg ⊢; omega)

/-- The reader over a list, with as much fuel as there are bytes. -/
def run (l : List UInt8) (st : St) : Option St := runB l.length l st

theorem run_nil (st : St) : run [] st = some st := rfl
theorem run_cons (b : UInt8) (r : List UInt8) (st : St) : run (b :: r) st = (match take st (Utf8.decode ⟨(b :: r).toArray⟩ 0).1 with
    | none => none
    | some st' => run ((b :: r).drop (Utf8.decode ⟨(b :: r).toArray⟩ 0).2) st') := by
  unfold run
  have hw := dec_width b r
  rw [List.length_cons]
  rw [runB_succ, if_neg (by simp)]
  cases take st (Utf8.decode ⟨(b :: r).toArray⟩ 0).1 with
  | none => rfl
  | some st' =>
    simp only []
    refine runB_fuel _ _ _ _ ?_ (Nat.le_refl _)
    rw [List.length_drop, List.length_cons]
    omega
theorem run_ascii (b : UInt8) (r : List UInt8) (st : St) (h : b.toNat < 128) : run (b :: r) st = (match take st b.toNat with | none => none | some st' => run r st') := by
  rw [run_cons, dec_ascii b r h]
  rfl
theorem parse_run (l : List UInt8) : parse ⟨l.toArray⟩ = (match run l St.init with | none => none | some st => if complete st then some (st.l, st.win) else none) := by
  unfold parse
  rw [runFrom_runB l _ 0 _ (Nat.zero_le _)]
  rw [show (⟨l.toArray⟩ : ByteArray).size = l.length by simp [ByteArray.size], List.drop_zero]
  show _ = (match runB l.length l St.init with | none => none | some st => if complete st then some (st.l, st.win) else none)
  cases runB l.length l St.init <;> rfl

/-- What comes of a state in the end. -/
def fin : Option St → Option (List (Int × Bool) × Int)
  | none => none
  | some st => if complete st then some (st.l, st.win) else none
theorem parse_fin (l : List UInt8) : parse ⟨l.toArray⟩ = fin (run l St.init) := by
  rw [parse_run]
  cases run l St.init <;> rfl

theorem run_sp0 (l : List UInt8) (acc : List (Int × Bool)) (w : Int) : run l { pl := 0, l := acc, win := w } = run (sp l) { pl := 0, l := acc, win := w } := by
  induction l with
  | nil => rfl
  | cons b r ih =>
    by_cases h : b = 32
    · subst h
      rw [sp_cons32, ← ih, run_ascii 32 r _ (by decide)]
      rfl
    · rw [sp_cons r h]
theorem run_sp3 (l : List UInt8) (acc : List (Int × Bool)) (w : Int) : run l { pl := 3, l := acc, win := w } = run (sp l) { pl := 3, l := acc, win := w } := by
  induction l with
  | nil => rfl
  | cons b r ih =>
    by_cases h : b = 32
    · subst h
      rw [sp_cons32, ← ih, run_ascii 32 r _ (by decide)]
      rfl
    · rw [sp_cons r h]

/-! ### the window -/
theorem dig_take {b : UInt8} (h : isDig b = true) : b.toNat < 128 ∧ (b.toNat : Int) ≠ 32 ∧ 48 ≤ (b.toNat : Int) ∧ (b.toNat : Int) ≤ 57 := by
  have := of_decide_eq_true h
  omega

/-- From place 5 on: nothing but spaces. -/
theorem fin_five (l : List UInt8) (acc : List (Int × Bool)) (w : Int) : fin (run l { pl := 5, l := acc, win := w }) = if sp l = [] then some (acc, w) else none := by
  induction l with
  | nil => simp [run_nil, fin, complete, sp]
  | cons b r ih =>
    by_cases h : b = 32
    · subst h
      rw [sp_cons32, ← ih, run_ascii 32 r _ (by decide)]
      rfl
    · rw [sp_cons r h, if_neg (by simp), run_cons]
      have hn : take { pl := 5, l := acc, win := w } (Utf8.decode ⟨(b :: r).toArray⟩ 0).1 = none := by
        simp only [take, takeWindow, addDigit]
        rw [if_neg (by omega)]
        by_cases h32 : ((Utf8.decode ⟨(b :: r).toArray⟩ 0).1 : Int) = 32
        · obtain ⟨h1, h2, _⟩ := dec_low (b := b) (r := r) (by omega)
          exact absurd (UInt8.toNat_inj.1 (show b.toNat = (32 : UInt8).toNat by have : (32 : UInt8).toNat = 32 := rfl; omega)) h
        · rw [if_neg h32]
          simp
      rw [hn]
      rfl

/-- At place 4 (behind a digit): more digits, or spaces alone. -/
theorem fin_four_stop (l : List UInt8) (acc : List (Int × Bool)) (w : Int) (h : ∀ b r, l = b :: r → isDig b = false) : fin (run l { pl := 4, l := acc, win := w }) = if sp l = [] then some (acc, w) else none := by
  cases l with
  | nil => simp [run_nil, fin, complete, sp]
  | cons b r =>
    have hd := h b r rfl
    by_cases h32 : b = 32
    · subst h32
      rw [sp_cons32, ← fin_five, run_ascii 32 r _ (by decide)]
      rfl
    · rw [sp_cons r h32, if_neg (by simp), run_cons]
      have hn : take { pl := 4, l := acc, win := w } (Utf8.decode ⟨(b :: r).toArray⟩ 0).1 = none := by
        simp only [take, takeWindow]
        rw [if_neg (by omega)]
        by_cases hlow : (Utf8.decode ⟨(b :: r).toArray⟩ 0).1 < 128
        · obtain ⟨h1, h2, _⟩ := dec_low hlow
          rw [h2, if_neg (by
            intro e
            exact h32 (UInt8.toNat_inj.1 (show b.toNat = (32 : UInt8).toNat by have : (32 : UInt8).toNat = 32 := rfl; omega))), if_neg (by
            intro e
            have : isDig b = true := by unfold isDig; exact decide_eq_true (by omega)
            rw [hd] at this; cases this)]
        · rw [if_neg (by omega), if_neg (by omega)]
      rw [hn]
      rfl

theorem take_dig4 (acc : List (Int × Bool)) (w : Int) (b : UInt8) (hd : isDig b = true) (hw : 0 < w) : take { pl := 4, l := acc, win := w } b.toNat = if w * 10 + ((b.toNat : Int) - 48) ≤ 9999 then some { pl := 4, l := acc, win := w * 10 + ((b.toNat : Int) - 48) } else none := by
  obtain ⟨h1, h2, h3, h4⟩ := dig_take hd
  simp only [take, takeWindow, addDigit]
  rw [if_neg (by omega), if_neg h2, if_pos ⟨h3, h4⟩, if_neg (by omega), if_neg (by omega)]
theorem take_dig3 (acc : List (Int × Bool)) (b : UInt8) (hd : isDig b = true) : take { pl := 3, l := acc, win := 0 } b.toNat = some { pl := 4, l := acc, win := (b.toNat : Int) - 48 } := by
  obtain ⟨h1, h2, h3, h4⟩ := dig_take hd
  simp only [take, takeWindow, addDigit]
  rw [if_neg (by omega), if_neg h2, if_pos ⟨h3, h4⟩, if_neg (by omega), if_neg (by omega), if_pos (by omega)]
  simp
theorem take_dig0 (acc : List (Int × Bool)) (b : UInt8) (hd : isDig b = true) : take { pl := 4, l := acc, win := 0 } b.toNat = none := by
  obtain ⟨h1, h2, h3, h4⟩ := dig_take hd
  simp only [take, takeWindow, addDigit]
  rw [if_neg (by omega), if_neg h2, if_pos ⟨h3, h4⟩, if_neg (by omega), if_pos (by simp)]

/-- At place 4 with a number above 0: m digits more are let in as long as the number stays below 10000. (m digits may still come.) -/
theorem fin_four (m : Nat) (l : List UInt8) (acc : List (Int × Bool)) (w : Int) (hw : 0 < w) (lo hi : Int) (hlo : lo ≤ w) (hhi : w < hi) (hm : (m = 0 ∧ lo = 1000 ∧ hi = 10000) ∨ (m = 1 ∧ lo = 100 ∧ hi = 1000) ∨ (m = 2 ∧ lo = 10 ∧ hi = 100) ∨ (m = 3 ∧ lo = 1 ∧ hi = 10)) :
    fin (run l { pl := 4, l := acc, win := w }) = if digs (m + 1) l ≤ m ∧ sp (l.drop (digs (m + 1) l)) = [] then some (acc, (l.take (digs (m + 1) l)).foldl (fun n b => 10 * n + ((b.toNat : Int) - 48)) w) else none := by
  induction m generalizing l w lo hi with
  | zero =>
    cases l with
    | nil => simp [run_nil, fin, complete, sp, digs]
    | cons b r =>
      by_cases hd : isDig b = true
      · obtain ⟨h1, h2, h3, h4⟩ := dig_take hd
        rw [run_ascii b r _ h1, take_dig4 acc w b hd hw, if_neg (by omega), if_neg (by simp [digs, hd])]
        rfl
      · have hd' : isDig b = false := by simpa using hd
        rw [fin_four_stop (b :: r) acc w (by rintro b' r' e; cases e; exact hd')]
        simp [digs, hd']
  | succ m ih =>
    cases l with
    | nil => simp [run_nil, fin, complete, sp, digs]
    | cons b r =>
      by_cases hd : isDig b = true
      · obtain ⟨h1, h2, h3, h4⟩ := dig_take hd
        rw [run_ascii b r _ h1, take_dig4 acc w b hd hw, if_pos (by omega)]
        simp only []
        rw [ih r (w * 10 + ((b.toNat : Int) - 48)) (by omega) (lo * 10) (hi * 10) (by omega) (by omega) (by omega)]
        have e1 : digs (m + 1 + 1) (b :: r) = digs (m + 1) r + 1 := by simp [digs, hd]
        rw [e1]
        simp only [List.drop_succ_cons, List.take_succ_cons, List.foldl_cons, Nat.add_le_add_iff_right]
        rw [show 10 * w + ((b.toNat : Int) - 48) = w * 10 + ((b.toNat : Int) - 48) by omega]
      · have hd' : isDig b = false := by simpa using hd
        rw [fin_four_stop (b :: r) acc w (by rintro b' r' e; cases e; exact hd')]
        simp [digs, hd']

theorem fin_three (t : List UInt8) (ht : t.head? ≠ some 32) (acc : List (Int × Bool)) :
    fin (run t { pl := 3, l := acc, win := 0 }) = if digs 5 t = 0 ∨ 4 < digs 5 t ∨ (1 < digs 5 t ∧ t.head? = some 48) ∨ sp (t.drop (digs 5 t)) ≠ [] then none else some (acc, numOf (t.take (digs 5 t))) := by
  cases t with
  | nil => simp [run_nil, fin, complete, digs]
  | cons b r =>
    have h32 : b ≠ 32 := by simpa using ht
    by_cases hd : isDig b = true
    · obtain ⟨h1, h2, h3, h4⟩ := dig_take hd
      have e1 : digs 5 (b :: r) = digs 4 r + 1 := by simp [digs, hd]
      rw [run_ascii b r _ h1, take_dig3 acc b hd]
      simp only []
      by_cases h0 : b = 48
      · subst h0
        rw [e1]
        cases r with
        | nil => simp [run_nil, fin, complete, digs, sp, numOf]
        | cons c r' =>
          by_cases hc : isDig c = true
          · obtain ⟨k1, k2, k3, k4⟩ := dig_take hc
            rw [run_ascii c r' _ k1, show (((48 : UInt8).toNat : Int) - 48) = 0 from rfl, take_dig0 acc c hc, if_pos (by simp [digs, hc])]
            rfl
          · have hc' : isDig c = false := by simpa using hc
            rw [show (((48 : UInt8).toNat : Int) - 48) = 0 from rfl, fin_four_stop (c :: r') acc 0 (by rintro b' r'' e; cases e; exact hc')]
            have e2 : digs 4 (c :: r') = 0 := by simp [digs, hc']
            rw [e2]
            simp only [List.drop_succ_cons, List.drop_zero, List.take_succ_cons, List.take_zero]
            by_cases hs : sp (c :: r') = []
            · rw [if_pos hs, if_neg (by simp [hs])]; rfl
            · rw [if_neg hs, if_pos (by simp [hs])]
      · have hb : (b.toNat : Int) ≠ 48 := by
          intro e
          exact h0 (UInt8.toNat_inj.1 (show b.toNat = (48 : UInt8).toNat by have : (48 : UInt8).toNat = 48 := rfl; omega))
        rw [fin_four 3 r acc ((b.toNat : Int) - 48) (by omega) 1 10 (by omega) (by omega) (by omega), e1]
        simp only [List.drop_succ_cons, List.take_succ_cons]
        by_cases hc : digs 4 r ≤ 3 ∧ sp (r.drop (digs 4 r)) = []
        · rw [if_pos hc, if_neg (by simp [hc.2, h0]; omega)]
          simp [numOf]
        · rw [if_neg hc, if_pos (by
            by_cases h3 : digs 4 r ≤ 3
            · right; right; right
              intro e; exact hc ⟨h3, e⟩
            · right; left; omega)]
    · have hd' : isDig b = false := by simpa using hd
      rw [if_pos (by left; simp [digs, hd']), run_cons]
      have hn : take { pl := 3, l := acc, win := 0 } (Utf8.decode ⟨(b :: r).toArray⟩ 0).1 = none := by
        simp only [take, takeWindow]
        rw [if_neg (by omega)]
        by_cases hlow : (Utf8.decode ⟨(b :: r).toArray⟩ 0).1 < 128
        · obtain ⟨h1, h2, _⟩ := dec_low hlow
          rw [h2, if_neg (by
            intro e
            exact h32 (UInt8.toNat_inj.1 (show b.toNat = (32 : UInt8).toNat by have : (32 : UInt8).toNat = 32 := rfl; omega))), if_neg (by
            intro e
            have : isDig b = true := by unfold isDig; exact decide_eq_true (by omega)
            rw [hd'] at this; cases this)]
        · rw [if_neg (by omega), if_neg (by omega)]
      rw [hn]
      rfl

theorem numOf_nonneg (l : List UInt8) (h : ∀ b ∈ l, isDig b = true) : 0 ≤ numOf l := by
  have : ∀ (l : List UInt8) (n : Int), 0 ≤ n → (∀ b ∈ l, isDig b = true) → 0 ≤ l.foldl (fun n b => 10 * n + ((b.toNat : Int) - 48)) n := by
    intro l
    induction l with
    | nil => intro n h _; exact h
    | cons b r ih =>
      intro n hn hl
      have hb := dig_take (hl b List.mem_cons_self)
      exact ih _ (by show 0 ≤ 10 * n + ((b.toNat : Int) - 48); omega) (fun x hx => hl x (List.mem_cons_of_mem _ hx))
  exact this l 0 (Int.le_refl _) h
theorem digs_dig (f : Nat) (l : List UInt8) : ∀ b ∈ l.take (digs f l), isDig b = true := by
  induction f generalizing l with
  | zero => intro b hb; simp [digs] at hb
  | succ f ih =>
    cases l with
    | nil => intro b hb; simp [digs] at hb
    | cons c r =>
      by_cases hc : isDig c = true
      · intro b hb
        simp only [digs, hc, if_true, List.take_succ_cons] at hb
        rcases List.mem_cons.1 hb with rfl | h
        · exact hc
        · exact ih r b h
      · intro b hb
        simp [digs, hc] at hb

/-- Behind the stroke. -/
theorem fin_win (l : List UInt8) (acc : List (Int × Bool)) : fin (run l { pl := 3, l := acc, win := 0 }) = if winOf l < 0 then none else some (acc, winOf l) := by
  rw [run_sp3, fin_three (sp l) (sp_head l) acc]
  unfold winOf
  have h0 := numOf_nonneg _ (digs_dig 5 (sp l))
  simp only []
  split
  · rw [if_pos (by decide)]
  · rw [if_neg (by omega)]

end Pl
end Go.Proofs.YtfldcmdhneegmaaGreatDoor

/-
  PLAIN: the document's own answer and the reader agree on every text.
-/
namespace Go.Proofs.YtfldcmdhneegmaaGreatDoor
namespace Pl
open Go.Lib

theorem byte_of {b : UInt8} {r : List UInt8} {k : Nat} (hk : k < 128) (h : ((Utf8.decode ⟨(b :: r).toArray⟩ 0).1 : Int) = k) : b.toNat = k := by
  obtain ⟨_, h2, _⟩ := dec_low (b := b) (r := r) (by omega)
  omega

theorem fin_mid (s : List UInt8) (pl : Int) (hp : pl = 1 ∨ pl = 2) (acc : List (Int × Bool)) (ha : acc ≠ []) (h43 : pl = 1 → s.head? ≠ some 43) :
    fin (run s { pl := pl, l := acc, win := 0 }) = if (sp s).head? = some 47 then (if winOf ((sp s).drop 1) < 0 then none else some (acc, winOf ((sp s).drop 1))) else if s.head? = some 32 then fin (run (sp s) { pl := 0, l := acc, win := 0 }) else none := by
  have hpl : pl = 0 ∨ pl = 1 ∨ pl = 2 := Or.inr hp
  have h47 : ∀ (q : Int), (q = 0 ∨ q = 1 ∨ q = 2) → take { pl := q, l := acc, win := 0 } 47 = some { pl := 3, l := acc, win := 0 } := by
    intro q hq
    simp [take, takeSteps, hq, ha]
  cases s with
  | nil =>
    rcases hp with rfl | rfl <;> simp [run_nil, fin, complete, sp]
  | cons b r =>
    by_cases h32 : b = 32
    · subst h32
      rw [sp_cons32, run_ascii 32 r _ (by decide), show take { pl := pl, l := acc, win := 0 } ((32 : UInt8).toNat : Int) = some { pl := 0, l := acc, win := 0 } by simp [take, takeSteps, hpl]]
      simp only []
      rw [run_sp0]
      by_cases hs : (sp r).head? = some 47
      · rw [if_pos hs]
        cases hq : sp r with
        | nil => rw [hq] at hs; cases hs
        | cons c r3 =>
          rw [hq] at hs
          obtain rfl : c = 47 := by simpa using hs
          rw [run_ascii 47 r3 _ (by decide), show take { pl := 0, l := acc, win := 0 } ((47 : UInt8).toNat : Int) = _ from h47 0 (Or.inl rfl)]
          exact fin_win r3 acc
      · rw [if_neg hs, if_pos (by simp)]
    · rw [sp_cons r h32]
      by_cases hb : b = 47
      · subst hb
        rw [if_pos (by simp), run_ascii 47 r _ (by decide), show take { pl := pl, l := acc, win := 0 } ((47 : UInt8).toNat : Int) = _ from h47 pl hpl]
        exact fin_win r acc
      · rw [if_neg (by simpa using hb), if_neg (by simpa using h32), run_cons]
        have hn : take { pl := pl, l := acc, win := 0 } (Utf8.decode ⟨(b :: r).toArray⟩ 0).1 = none := by
          simp only [take, takeSteps, addPlus, addStep]
          rw [if_pos hpl, if_neg (by
            intro e; have := byte_of (k := 32) (by omega) e
            exact h32 (UInt8.toNat_inj.1 (show b.toNat = (32 : UInt8).toNat by rw [this]; rfl)))]
          split
          · rename_i e
            have hb43 := byte_of (k := 43) (by omega) e
            have : b = 43 := UInt8.toNat_inj.1 (show b.toNat = (43 : UInt8).toNat by rw [hb43]; rfl)
            rw [if_neg (by intro e1; exact h43 e1 (by simpa using this))]
          · rw [if_neg (by
              intro e; have := byte_of (k := 47) (by omega) e
              exact hb (UInt8.toNat_inj.1 (show b.toNat = (47 : UInt8).toNat by rw [this]; rfl)))]
            split
            · rw [if_neg (by rcases hp with rfl | rfl <;> simp)]
            · rfl
        rw [hn]
        rfl

theorem ref_run (f : Nat) (s : List UInt8) (acc : List (Int × Bool)) (hf : s.length < f) (h32 : s.head? ≠ some 32) (h47 : s.head? ≠ some 47 ∨ acc = []) :
    fin (run s { pl := 0, l := acc, win := 0 }) = refLoop f s acc := by
  induction f generalizing s acc with
  | zero => omega
  | succ f ih =>
    unfold refLoop
    cases s with
    | nil => simp [run_nil, fin, complete]
    | cons b r =>
      have hw := dec_width b r
      rw [run_cons]
      by_cases hlet : isLetterU (Utf8.decode ⟨(b :: r).toArray⟩ 0).1 = true
      · obtain ⟨n1, n2, n3⟩ := letter_not hlet
        by_cases h4 : acc.length = 4
        · rw [if_pos (by right; right; exact h4), show take { pl := 0, l := acc, win := 0 } (Utf8.decode ⟨(b :: r).toArray⟩ 0).1 = none by
            simp [take, takeSteps, addStep, n1, n2, n3, hlet, h4]]
          rfl
        · rw [if_neg (by simp [hlet, h4]), show take { pl := 0, l := acc, win := 0 } (Utf8.decode ⟨(b :: r).toArray⟩ 0).1 = some { pl := 1, l := acc ++ [(((Utf8.decode ⟨(b :: r).toArray⟩ 0).1 : Int), false)], win := 0 } by
            simp [take, takeSteps, addStep, n1, n2, n3, hlet, h4]]
          simp only []
          generalize Utf8.decode ⟨(b :: r).toArray⟩ 0 = q at *
          obtain ⟨c, n⟩ := q
          simp only [] at *
          generalize hs1 : (b :: r).drop n = s1
          have hl1 : s1.length < f := by
            rw [← hs1, List.length_drop]
            simp at hf ⊢
            omega
          by_cases hpl : s1.head? = some 43
          · cases s1 with
            | nil => cases hpl
            | cons d s2 =>
              obtain rfl : d = 43 := by simpa using hpl
              rw [run_ascii 43 s2 _ (by decide), show take { pl := 1, l := acc ++ [((c : Int), false)], win := 0 } ((43 : UInt8).toNat : Int) = some { pl := 2, l := acc ++ [((c : Int), true)], win := 0 } by
                simp [take, takeSteps, addPlus, plusLast_snoc]]
              simp only [List.head?_cons, beq_self_eq_true, if_true, List.drop_succ_cons, List.drop_zero]
              rw [fin_mid s2 2 (Or.inr rfl) _ (by simp) (by intro e; cases e)]
              split
              · rfl
              · rename_i hn47
                split
                · have := sp_length s2
                  exact ih (sp s2) _ (by simp at hl1; omega) (sp_head s2) (Or.inl hn47)
                · rfl
          · have e1 : (s1.head? == some 43) = false := by simpa using hpl
            rw [e1]
            simp only [Bool.false_eq_true, if_false]
            rw [fin_mid s1 1 (Or.inl rfl) _ (by simp) (fun _ => hpl)]
            split
            · rfl
            · rename_i hn47
              split
              · have := sp_length s1
                exact ih (sp s1) _ (by omega) (sp_head s1) (Or.inl hn47)
              · rfl
      · have hlet' : isLetterU (Utf8.decode ⟨(b :: r).toArray⟩ 0).1 = false := by simpa using hlet
        rw [if_pos (by right; left; exact hlet')]
        have hn : take { pl := 0, l := acc, win := 0 } (Utf8.decode ⟨(b :: r).toArray⟩ 0).1 = none := by
          simp only [take, takeSteps, addPlus]
          rw [if_pos (by simp), if_neg (by
            intro e; have := byte_of (k := 32) (by omega) e
            exact h32 (by rw [UInt8.toNat_inj.1 (show b.toNat = (32 : UInt8).toNat by rw [this]; rfl)]; rfl))]
          split
          · rfl
          · split
            · rename_i e
              have hb47 := byte_of (k := 47) (by omega) e
              have hb : b = 47 := UInt8.toNat_inj.1 (show b.toNat = (47 : UInt8).toNat by rw [hb47]; rfl)
              rcases h47 with h | h
              · exact absurd (by rw [hb]; rfl) h
              · simp [h]
            · rfl
        rw [hn]
        rfl

/-- The document's own answer is the reader's. -/
theorem ref_parse (l : List UInt8) (f : Nat) (hf : l.length < f) : refLoop f (sp l) [] = parse ⟨l.toArray⟩ := by
  have := sp_length l
  rw [← ref_run f (sp l) [] (by omega) (sp_head l) (Or.inr rfl), parse_fin, ← run_sp0]
  rfl

end Pl
end Go.Proofs.YtfldcmdhneegmaaGreatDoor
