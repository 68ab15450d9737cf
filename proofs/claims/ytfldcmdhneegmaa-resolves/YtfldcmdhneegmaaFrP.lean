/-
  PLAIN: frames: the sum, numbers, moments; a number is read. No program in it.
-/
import Derived.KernelRfl
namespace Go.Proofs.Ytfldcmdhneegmaa
namespace Fr

/-! ### the sum -/
def sumStep (h : Nat) (b : UInt8) : Nat := (h ^^^ b.toNat) * 16777619 % 4294967296
def sumN (l : List UInt8) : Nat := l.foldl sumStep 2166136261
theorem sumN_snoc (l : List UInt8) (b : UInt8) : sumN (l ++ [b]) = sumStep (sumN l) b := by
  unfold sumN
  rw [List.foldl_append, List.foldl_cons, List.foldl_nil]
theorem sumN_lt (l : List UInt8) : sumN l < 4294967296 := by
  have h : ∀ (l : List UInt8) (h : Nat), h < 4294967296 → l.foldl sumStep h < 4294967296 := by
    intro l
    induction l with
    | nil => intro h hh; exact hh
    | cons b r ih =>
      intro h _
      rw [List.foldl_cons]
      refine ih _ ?_
      unfold sumStep
      exact Nat.mod_lt _ (by omega)
  unfold sumN
  exact h l _ (by omega)
def be4 (n : Nat) : List UInt8 := [UInt8.ofNat (n / 16777216), UInt8.ofNat (n / 65536), UInt8.ofNat (n / 256), UInt8.ofNat n]
def sum (l : List UInt8) : List UInt8 := be4 (sumN l)
theorem sum_length (l : List UInt8) : (sum l).length = 4 := rfl
/-- A frame: what is in it (its kind first), and the sum. -/
def framed (l : List UInt8) : List UInt8 := l ++ sum l
/-- Is it a frame of a kind with a right sum? What is in it. -/
def sound (l : List UInt8) (kind : UInt8) : Option (List UInt8) :=
  if 5 ≤ l.length ∧ l.head? = some kind ∧ sum (l.take (l.length - 4)) = l.drop (l.length - 4) then some ((l.take (l.length - 4)).drop 1) else none
theorem sound_iff {l : List UInt8} {kind : UInt8} {r : List UInt8} : sound l kind = some r ↔ l = framed (kind :: r) := by
  unfold sound framed
  constructor
  · intro h
    split at h
    · rename_i hc
      obtain ⟨h5, hk, hs⟩ := hc
      obtain rfl := Option.some.inj h
      have hh : l.take (l.length - 4) = kind :: (l.take (l.length - 4)).drop 1 := by
        cases l with
        | nil => simp at h5
        | cons b t =>
          obtain rfl : b = kind := by simpa using hk
          rw [show (b :: t).length - 4 = (t.length - 4) + 1 by simp at h5 ⊢; omega]
          simp
      conv => lhs; rw [← List.take_append_drop (l.length - 4) l]
      rw [← hh, hs]
    · cases h
  · rintro rfl
    have hl : (kind :: r ++ sum (kind :: r)).length = (kind :: r).length + 4 := by rw [List.length_append, sum_length]
    rw [hl, Nat.add_sub_cancel, List.take_left, List.drop_left]
    rw [if_pos ⟨by simp, by simp, rfl⟩]
    simp
theorem sound_framed (kind : UInt8) (r : List UInt8) : sound (framed (kind :: r)) kind = some r := sound_iff.2 rfl

/-! ### the sum, as four bytes and as a number -/
def valStep (n : Nat) (b : UInt8) : Nat := n * 256 % 4294967296 + b.toNat
def val (l : List UInt8) : Nat := l.foldl valStep 0
theorem val_snoc (l : List UInt8) (b : UInt8) : val (l ++ [b]) = valStep (val l) b := by
  unfold val
  rw [List.foldl_append, List.foldl_cons, List.foldl_nil]
theorem valStep_lt (n : Nat) (b : UInt8) : valStep n b < 4294967296 := by
  have := b.toNat_lt
  unfold valStep
  omega
theorem val_lt (l : List UInt8) : val l < 4294967296 := by
  have h : ∀ (l : List UInt8) (h : Nat), h < 4294967296 → l.foldl valStep h < 4294967296 := by
    intro l
    induction l with
    | nil => intro h hh; exact hh
    | cons b r ih =>
      intro h _
      rw [List.foldl_cons]
      exact ih _ (valStep_lt _ _)
  unfold val
  exact h l _ (by omega)
theorem val_four (a b c d : UInt8) : val [a, b, c, d] = a.toNat * 16777216 + b.toNat * 65536 + c.toNat * 256 + d.toNat := by
  have ha := a.toNat_lt
  have hb := b.toNat_lt
  have hc := c.toNat_lt
  have hd := d.toNat_lt
  show valStep (valStep (valStep (valStep 0 a) b) c) d = _
  unfold valStep
  omega
theorem val_be4 {n : Nat} (h : n < 4294967296) : val (be4 n) = n := by
  unfold be4
  rw [val_four]
  have e0 : (UInt8.ofNat (n / 16777216)).toNat = n / 16777216 := by simp; omega
  have e1 : (UInt8.ofNat (n / 65536)).toNat = n / 65536 % 256 := by simp
  have e2 : (UInt8.ofNat (n / 256)).toNat = n / 256 % 256 := by simp
  have e3 : (UInt8.ofNat n).toNat = n % 256 := by simp
  rw [e0, e1, e2, e3]
  omega
theorem be4_val {l : List UInt8} (h : l.length = 4) : be4 (val l) = l := by
  match l, h with
  | [a, b, c, d], _ =>
    have ha := a.toNat_lt
    have hb := b.toNat_lt
    have hc := c.toNat_lt
    have hd := d.toNat_lt
    rw [val_four]
    unfold be4
    have e0 : UInt8.ofNat ((a.toNat * 16777216 + b.toNat * 65536 + c.toNat * 256 + d.toNat) / 16777216) = a := by apply UInt8.toNat_inj.1; simp; omega
    have e1 : UInt8.ofNat ((a.toNat * 16777216 + b.toNat * 65536 + c.toNat * 256 + d.toNat) / 65536) = b := by apply UInt8.toNat_inj.1; simp; omega
    have e2 : UInt8.ofNat ((a.toNat * 16777216 + b.toNat * 65536 + c.toNat * 256 + d.toNat) / 256) = c := by apply UInt8.toNat_inj.1; simp; omega
    have e3 : UInt8.ofNat (a.toNat * 16777216 + b.toNat * 65536 + c.toNat * 256 + d.toNat) = d := by apply UInt8.toNat_inj.1; simp
    rw [e0, e1, e2, e3]
theorem sum_iff {m l : List UInt8} (hl : l.length = 4) : sum m = l ↔ sumN m = val l := by
  constructor
  · intro h
    rw [← h]
    exact (val_be4 (sumN_lt m)).symm
  · intro h
    unfold sum
    rw [h, be4_val hl]
theorem val_inj {l m : List UInt8} (hl : l.length = 4) (hm : m.length = 4) : val l = val m ↔ l = m :=
  ⟨fun h => by rw [← be4_val hl, h, be4_val hm], fun h => by rw [h]⟩

/-! ### numbers -/
def num (n : Nat) : List UInt8 := if h : n < 128 then [UInt8.ofNat n] else UInt8.ofNat (n % 128 + 128) :: num (n / 128)
theorem num_small {n : Nat} (h : n < 128) : num n = [UInt8.ofNat n] := by rw [num, dif_pos h]
theorem num_great {n : Nat} (h : ¬ n < 128) : num n = UInt8.ofNat (n % 128 + 128) :: num (n / 128) := by rw [num, dif_neg h]
theorem num_pos (n : Nat) : 1 ≤ (num n).length := by
  rw [num]; split <;> simp
theorem num_ne (n : Nat) : num n ≠ [] := fun e => by have := num_pos n; rw [e] at this; simp at this
theorem num_length (k : Nat) : ∀ n, n < 128 ^ (k + 1) → (num n).length ≤ k + 1 := by
  induction k with
  | zero => intro n h; rw [num_small (by simpa using h)]; simp
  | succ k ih =>
    intro n h
    by_cases h1 : n < 128
    · rw [num_small h1]; simp
    · rw [num_great h1]
      have := ih (n / 128) (by rw [Nat.pow_succ] at h; exact Nat.div_lt_of_lt_mul (by rw [Nat.mul_comm]; exact h))
      simp; omega
theorem num_length64 {n : Nat} (h : n < 18446744073709551616) : (num n).length ≤ 10 := num_length 9 n (Nat.lt_trans h (by decide))

/-- A moment, as a number. -/
def zig (t : Int) : Nat := if 0 ≤ t then (2 * t).toNat else (-2 * t - 1).toNat
def mom (t : Int) : List UInt8 := num (zig t)
theorem zig_lt {t : Int} (h1 : -9223372036854775808 ≤ t) (h2 : t < 9223372036854775808) : zig t < 18446744073709551616 := by
  unfold zig; split <;> omega
/-- A number, as a moment. -/
def zag (n : Nat) : Int := if n % 2 = 1 then -1 - (n / 2 : Nat) else (n / 2 : Nat)
theorem zag_zig (t : Int) : zag (zig t) = t := by
  unfold zag zig; split <;> split <;> omega
theorem zig_zag (n : Nat) : zig (zag n) = n := by
  unfold zag zig; split <;> split <;> omega
theorem zag_range {n : Nat} (h : n < 18446744073709551616) : -9223372036854775808 ≤ zag n ∧ zag n < 9223372036854775808 := by
  unfold zag; split <;> omega

/-! ### a number is read -/
/-- From place k on, n so far: the number, whether a byte is too many, the rest. -/
def rdGo : Nat → Nat → Nat → List UInt8 → Option (Nat × Bool × List UInt8)
  | 0, _, _, _ => none
  | _ + 1, _, _, [] => none
  | f + 1, k, n, b :: r =>
    if k = 9 ∧ 1 < b.toNat then none
    else if b.toNat < 128 then some (n + b.toNat * 128 ^ k, decide (0 < k ∧ b = 0), r)
    else rdGo f (k + 1) (n + b.toNat % 128 * 128 ^ k) r
def rdRaw (l : List UInt8) : Option (Nat × Bool × List UInt8) := rdGo 10 0 0 l
/-- The number in front, in as few bytes as can be, and the rest. -/
def rd (l : List UInt8) : Option (Nat × List UInt8) :=
  match rdRaw l with
  | some (n, false, r) => some (n, r)
  | _ => none

theorem toNat_ofNat {n : Nat} (h : n < 256) : (UInt8.ofNat n).toNat = n := by simp; omega
theorem rdGo_num (f : Nat) : ∀ (k n m : Nat) (r : List UInt8), f + k = 10 → k ≤ 9 → m < 128 ^ (10 - k) → (k = 9 → m ≤ 1) → n + m * 128 ^ k < 18446744073709551616 → rdGo f k n (num m ++ r) = some (n + m * 128 ^ k, decide (0 < k ∧ m = 0), r) := by
  induction f with
  | zero => intro k n m r h1 h2; omega
  | succ f ih =>
    intro k n m r hf hk hm h9 hb
    by_cases hs : m < 128
    · rw [num_small hs]
      show (if k = 9 ∧ 1 < (UInt8.ofNat m).toNat then none else _) = _
      rw [toNat_ofNat (by omega), if_neg (by intro h; have := h9 h.1; omega), if_pos hs]
      have e : (UInt8.ofNat m = 0) ↔ m = 0 := by
        constructor
        · intro h
          have := congrArg UInt8.toNat h
          rw [toNat_ofNat (by omega)] at this
          exact this
        · rintro rfl; rfl
      simp [e]
    · rw [num_great hs]
      show (if k = 9 ∧ 1 < (UInt8.ofNat (m % 128 + 128)).toNat then none else _) = _
      have hk9 : k ≠ 9 := fun e => by have := h9 e; omega
      have hp : m % 128 * 128 ^ k + m / 128 * 128 ^ (k + 1) = m * 128 ^ k := by
        rw [Nat.pow_succ, ← Nat.mul_assoc, Nat.mul_right_comm, ← Nat.add_mul]
        congr 1
        omega
      rw [toNat_ofNat (by omega), if_neg (by rintro ⟨h, -⟩; exact hk9 h), if_neg (by omega), show (m % 128 + 128) % 128 = m % 128 by omega]
      have hm' : m / 128 < 128 ^ (10 - (k + 1)) := by
        rw [show 10 - k = (10 - (k + 1)) + 1 by omega, Nat.pow_succ] at hm
        exact Nat.div_lt_of_lt_mul (by rw [Nat.mul_comm]; exact hm)
      show rdGo f (k + 1) _ (num (m / 128) ++ r) = _
      rw [ih (k + 1) _ (m / 128) r (by omega) (by omega) hm' ?_ (by omega)]
      · have hz : m / 128 ≠ 0 := by omega
        have hz' : m ≠ 0 := by omega
        simp only [hz, hz', and_false, decide_false]
        rw [Nat.add_assoc, hp]
      · intro h8
        have hk8 : k = 8 := by omega
        subst hk8
        have : m * 128 ^ 8 < 18446744073709551616 := by omega
        omega
theorem rd_num {n : Nat} (h : n < 18446744073709551616) (r : List UInt8) : rd (num n ++ r) = some (n, r) := by
  have := rdGo_num 10 0 0 n r rfl (by omega) (Nat.lt_trans h (by decide)) (by intro h; cases h) (by simpa using h)
  unfold rd rdRaw
  rw [this]
  simp
theorem rdGo_back (f : Nat) : ∀ (k n0 : Nat) (l : List UInt8) (n : Nat) (z : Bool) (r : List UInt8), f + k = 10 → n0 < 128 ^ k → rdGo f k n0 l = some (n, z, r) → n < 18446744073709551616 ∧ r.length < l.length ∧ ∃ m, n = n0 + m * 128 ^ k ∧ (z = false → l = num m ++ r ∧ (0 < k → m ≠ 0)) := by
  induction f with
  | zero => intro k n0 l n z r h1 h2 h3; simp [rdGo] at h3
  | succ f ih =>
    intro k n0 l n z r hf h0 h
    cases l with
    | nil => simp [rdGo] at h
    | cons b t =>
      have hb := b.toNat_lt
      have hk : k ≤ 9 := by omega
      simp only [rdGo] at h
      split at h
      · cases h
      rename_i h9
      split at h
      · rename_i hs
        simp only [Option.some.injEq, Prod.mk.injEq] at h
        obtain ⟨rfl, rfl, rfl⟩ := h
        refine ⟨?_, by simp, b.toNat, rfl, ?_⟩
        · by_cases hk9 : k = 9
          · subst hk9
            have : b.toNat ≤ 1 := by
              have := fun hh => h9 ⟨rfl, hh⟩
              omega
            omega
          · have h1 : b.toNat * 128 ^ k ≤ 127 * 128 ^ k := Nat.mul_le_mul_right _ (by omega)
            have h2 : 128 ^ (k + 1) ≤ 128 ^ 9 := Nat.pow_le_pow_right (by decide) (by omega)
            have h3 : 128 ^ (k + 1) = 128 * 128 ^ k := by rw [Nat.pow_succ, Nat.mul_comm]
            omega
        · intro hz
          refine ⟨?_, ?_⟩
          · rw [num_small hs]; simp
          · intro h0 e
            have : b = 0 := UInt8.toNat_inj.1 e
            simp [h0, this] at hz
      · rename_i hs
        have hlt : n0 + b.toNat % 128 * 128 ^ k < 128 ^ (k + 1) := by
          have h1 : b.toNat % 128 * 128 ^ k ≤ 127 * 128 ^ k := Nat.mul_le_mul_right _ (by omega)
          have h3 : 128 ^ (k + 1) = 128 * 128 ^ k := by rw [Nat.pow_succ, Nat.mul_comm]
          omega
        obtain ⟨h1, hr, m, h2, h3⟩ := ih (k + 1) _ t n z r (by omega) hlt h
        refine ⟨h1, by simp; omega, b.toNat % 128 + 128 * m, ?_, ?_⟩
        · rw [h2, Nat.add_mul, Nat.pow_succ]
          have : m * (128 ^ k * 128) = 128 * m * 128 ^ k := by rw [Nat.mul_comm (128 ^ k) 128, ← Nat.mul_assoc, Nat.mul_comm m 128]
          omega
        · intro hz
          obtain ⟨h4, h5⟩ := h3 hz
          have hm := h5 (by omega)
          refine ⟨?_, by omega⟩
          rw [num_great (by omega), show (b.toNat % 128 + 128 * m) % 128 = b.toNat % 128 by omega, show (b.toNat % 128 + 128 * m) / 128 = m by omega, List.cons_append, ← h4]
          congr 1
          apply UInt8.toNat_inj.1
          rw [toNat_ofNat (by omega)]
          omega
theorem rdRaw_lt {l : List UInt8} {n : Nat} {z : Bool} {r : List UInt8} (h : rdRaw l = some (n, z, r)) : n < 18446744073709551616 ∧ r.length < l.length := by
  obtain ⟨h1, h2, -⟩ := rdGo_back 10 0 0 l n z r rfl (by decide) h
  exact ⟨h1, h2⟩
theorem rd_back {l : List UInt8} {n : Nat} {r : List UInt8} (h : rd l = some (n, r)) : l = num n ++ r ∧ n < 18446744073709551616 := by
  unfold rd at h
  split at h
  · rename_i n' r' h'
    simp only [Option.some.injEq, Prod.mk.injEq] at h
    obtain ⟨rfl, rfl⟩ := h
    obtain ⟨h1, -, m, h2, h3⟩ := rdGo_back 10 0 0 l _ false _ rfl (by decide) h'
    have : n' = m := by simpa using h2
    subst this
    exact ⟨(h3 rfl).1, h1⟩
  · cases h

end Fr
end Go.Proofs.Ytfldcmdhneegmaa
