import Derived.Test.YtfldcmdhneegmabGreatDoorProg
import Derived.WalkKit
import Derived.Lib.OthersKept
import Derived.Laws.OwnMore
import Derived.Laws.AppendOwnNone
import Derived.BigQuiet
import Derived.Deep.QuietTactic
import Derived.Test.YtfldcmdhneegmabGreatDoorZ00
import Derived.Test.YtfldcmdhneegmabGreatDoorBase

/-
  ROWS IN MEMORY that are read alone: ints, runs, events; F: the blocks in which they lie.
-/
namespace Go.Proofs.YtfldcmdhneegmabGreatDoor
open Go.RowKit Go.Lib

/-- A row of n elements of k cells each, as a slice shows it. -/
def RowAt (F : Nat → Prop) (w : World) (v : Value) (k n : Nat) (xs : List Value) : Prop :=
  xs.length = n * k ∧ ((v = .slice none 0 0 ∧ n = 0) ∨
    ∃ b o cap, v = .slice (some ⟨b, o, none⟩) n cap ∧ F b ∧ b < w.heap.size ∧ n ≤ cap ∧ cap ≤ maxLen ∧ ∀ (j : Nat) (u : Value), xs[j]? = some u → w.cell? ⟨b, o + j, none⟩ = some u)

theorem RowAt.mono {F G : Nat → Prop} {w : World} {v : Value} {k n : Nat} {xs : List Value} (h : RowAt F w v k n xs) (hFG : ∀ b, b < w.heap.size → F b → G b) : RowAt G w v k n xs := by
  obtain ⟨h1, h2⟩ := h
  refine ⟨h1, ?_⟩
  rcases h2 with h2 | ⟨b, o, cap, hv, hF, hb, r⟩
  · exact Or.inl h2
  · exact Or.inr ⟨b, o, cap, hv, hFG b hb hF, hb, r⟩

/-- What changes no block of F changes no row in F. -/
theorem RowAt.frame {F : Nat → Prop} {w w' : World} {v : Value} {k n : Nat} {xs : List Value} (h : RowAt F w v k n xs) (hs : w.heap.size ≤ w'.heap.size) (hF : ∀ b, b < w.heap.size → F b → w'.heap[b]? = w.heap[b]?) : RowAt F w' v k n xs := by
  obtain ⟨h1, h2⟩ := h
  refine ⟨h1, ?_⟩
  rcases h2 with h2 | ⟨b, o, cap, hv, hFb, hb, hn, hc, r⟩
  · exact Or.inl h2
  · refine Or.inr ⟨b, o, cap, hv, hFb, by omega, hn, hc, fun j u hj => ?_⟩
    rw [World.cell?_of_block (w := w) (w' := w') (a := ⟨b, o + j, none⟩) (hF b hb hFb)]
    exact r j u hj
theorem RowAt.below {F : Nat → Prop} {w w' : World} {v : Value} {k n : Nat} {xs : List Value} (h : RowAt F w v k n xs) (hb : Below w.heap.size w w') : RowAt F w' v k n xs :=
  h.frame hb.size (fun b hb' _ => hb.block b hb')

theorem RowAt.slice {F : Nat → Prop} {w : World} {v : Value} {k n : Nat} {xs : List Value} (h : RowAt F w v k n xs) : ∃ ao cap, v = .slice ao n cap ∧ n ≤ cap ∧ cap ≤ maxLen := by
  rcases h.2 with ⟨rfl, rfl⟩ | ⟨b, o, cap, rfl, _, _, h1, h2, _⟩
  · exact ⟨_, _, rfl, by omega, by unfold maxLen; omega⟩
  · exact ⟨_, _, rfl, h1, h2⟩

theorem RowAt.ofOwn {base : Nat} {w : World} {e : TypeId} {v : Value} {k n : Nat} {xs : List Value} (h : w.ownsRow base e k v n xs) : RowAt (fun b => base ≤ b) w v k n xs := by
  refine ⟨h.1, ?_⟩
  rcases h.2 with h2 | ⟨g, cap, cur, hv, hg, hb, hn, hc, hs, ht⟩
  · exact Or.inl h2
  · refine Or.inr ⟨g, 0, cap, hv, hg, lt_of_block hb, hn, hc, fun j u hj => ?_⟩
    have := h.cells (g := g) (by rw [hv]; rfl) j u hj
    by_cases h0 : j = 0
    · subst h0; simpa [Addr.add] using this
    · simpa [Addr.add, h0] using this

/-- An element's cells. -/
theorem RowAt.at {F : Nat → Prop} {w : World} {v : Value} {k n : Nat} {xs : List Value} (h : RowAt F w v k n xs) {i : Nat} (hi : i < n) : ∃ b o cap, v = .slice (some ⟨b, o, none⟩) n cap ∧ ∀ (j : Nat) (u : Value), j < k → xs[i * k + j]? = some u → w.cell? ⟨b, o + (i * k + j), none⟩ = some u := by
  rcases h.2 with ⟨rfl, rfl⟩ | ⟨b, o, cap, rfl, _, _, h1, h2, r⟩
  · omega
  · exact ⟨b, o, cap, rfl, fun j u _ hu => r _ u hu⟩

theorem bel_drewN {B : Nat} {a w : World} (h : Below B a w) (n : Nat) : Below B a (w.drewN n) := h.trans ⟨rfl, rfl, rfl, Nat.le_refl _, fun _ _ => rfl⟩

/-- A part of a row. -/
theorem RowAt.sliced {F : Nat → Prop} {w : World} {ao : Option Addr} {k n cap : Nat} {xs : List Value} (h : RowAt F w (.slice ao n cap) k n xs) (lo hi : Nat) (h1 : lo ≤ hi) (h2 : hi ≤ n) :
    RowAt F w (Go.sliced ao lo hi cap k) k (hi - lo) ((xs.drop (lo * k)).take ((hi - lo) * k)) := by
  obtain ⟨hl, hr⟩ := h
  have hle : (hi - lo) * k ≤ n * k - lo * k := by
    rw [← Nat.sub_mul]
    exact Nat.mul_le_mul_right k (by omega)
  refine ⟨by rw [List.length_take, List.length_drop, hl]; omega, ?_⟩
  rcases hr with ⟨he, -⟩ | ⟨b, o, cap', he, hF, hb, hn, hc, r⟩
  · cases he
    left
    obtain rfl : hi = 0 := by omega
    obtain rfl : lo = 0 := by omega
    exact ⟨rfl, rfl⟩
  · cases he
    right
    unfold Go.sliced
    by_cases hcl : cap = lo
    · rw [if_pos hcl]
      refine ⟨b, o, _, rfl, hF, hb, by omega, by omega, fun j u hj => ?_⟩
      have : hi - lo = 0 := by omega
      rw [this] at hj
      simp at hj
    · rw [if_neg hcl]
      refine ⟨b, o + lo * k, cap - lo, ?_, hF, hb, by omega, by omega, fun j u hj => ?_⟩
      · by_cases h0 : lo * k = 0
        · simp [Addr.add, h0]
        · simp [Addr.add, h0]
      · have hj' : xs[lo * k + j]? = some u := by
          rw [List.getElem?_take] at hj
          split at hj
          · rwa [List.getElem?_drop] at hj
          · cases hj
        have := r _ u hj'
        rwa [← Nat.add_assoc] at this

/-- append to a row of the call's own, out of whatever row. -/
theorem wpList_append_row {P : Program} {w : World} {ops : Array Oper} {rest : List Oper} {o : Oper} {a : Act} {Q : Exit → Act → World → Prop} (hgd : o.guard = none) (s x : Operand) (t : TypeId)
    (ho : o.op = .call { callee := .builtin .append, args := #[s, x], argTypes := #[t, t] })
    (base : Nat) (e : TypeId) (i : TypeInfo) (z : Value) (size bytes : Nat) (ht : P.underlying t = some (.slice e)) (hi : P.info? e = some i) (hz : i.zero = some z)
    (hsize : i.size = size) (hby : i.bytes = bytes) (hzs : z.cells.size = size) (hsz : 0 < size)
    (v : Value) (n : Nat) (xs : List Value) (hs : a.eval s = v) (hown : w.ownsRow base e size v n xs)
    (F : Nat → Prop) (vx : Value) (m : Nat) (news : List Value) (hx : a.eval x = vx) (hrow : RowAt F w vx size m news) (h1 : ∀ u ∈ news, u.oneCell' = true)
    (h63 : n + m ≤ maxLen) (hbytes : (n + m) * bytes ≤ 140737488355328) (hbase : base ≤ w.heap.size)
    (h : ∀ v' w', w'.ownsRow base e size v' (n + m) (xs ++ news) → w.grownBy w' v.ownBlock → wpList P ops Q rest (a.put o.dst v') w') : wpList P ops Q (o :: rest) a w := by
  obtain ⟨hl, hr⟩ := hrow
  rcases hr with ⟨rfl, rfl⟩ | ⟨b, o', cap, rfl, _, _, _, _, r⟩
  · have hn : news = [] := List.eq_nil_of_length_eq_zero (by simpa using hl)
    subst hn
    refine wpList_append_own_none hgd s x t ho base e i size ht hi v n xs hs hown hx ?_
    exact h v w (by simpa using hown) ⟨rfl, rfl, rfl, Nat.le_refl _, fun _ _ _ => rfl⟩
  · refine wpList_append_own w hgd s x t ho base e i z size bytes ht hi hz hsize hby hzs hsz v n xs hs hown ⟨b, o', none⟩ m cap news hx hl ?_ h1 h63 hbytes hbase (fun v' w' h2 h3 _ => h v' w' h2 h3)
    intro j u hj
    have := r j u hj
    by_cases h0 : j = 0
    · subst h0; simpa [Addr.add] using this
    · simpa [Addr.add, h0] using this

/-- The same, as a step of a region that draws its order. -/
theorem step_append_row {P : Program} {w : World} {ops : Array Oper} {o : Oper} {a : Act} {K : Act → World → Prop} {Q : Exit → Act → World → Prop} {E : Prop} (hgd : o.guard = none) (s x : Operand) (t : TypeId)
    (ho : o.op = .call { callee := .builtin .append, args := #[s, x], argTypes := #[t, t] })
    (base : Nat) (e : TypeId) (i : TypeInfo) (z : Value) (size bytes : Nat) (ht : P.underlying t = some (.slice e)) (hi : P.info? e = some i) (hz : i.zero = some z)
    (hsize : i.size = size) (hby : i.bytes = bytes) (hzs : z.cells.size = size) (hsz : 0 < size)
    (v : Value) (n : Nat) (xs : List Value) (hs : a.eval s = v) (hown : w.ownsRow base e size v n xs)
    (F : Nat → Prop) (vx : Value) (m : Nat) (news : List Value) (hx : a.eval x = vx) (hrow : RowAt F w vx size m news) (h1 : ∀ u ∈ news, u.oneCell' = true)
    (h63 : n + m ≤ maxLen) (hbytes : (n + m) * bytes ≤ 140737488355328) (hbase : base ≤ w.heap.size)
    (h : ∀ v' w', w'.ownsRow base e size v' (n + m) (xs ++ news) → w.grownBy w' v.ownBlock → K (a.put o.dst v') w') :
    if Region.wanted o (yielded ops a.tmps) = true then Oper.wp P o a w K Q else E := by
  have hw : Region.wanted o (yielded ops a.tmps) = true := by simp [Region.wanted, hgd]
  rw [if_pos hw]
  obtain ⟨hl, hr⟩ := hrow
  rcases hr with ⟨rfl, rfl⟩ | ⟨b, o', cap, rfl, _, _, _, _, r⟩
  · have hn : news = [] := List.eq_nil_of_length_eq_zero (by simpa using hl)
    subst hn
    have hrun := run_append_owned_none (P := P) (w := w) base t o.type e i size ht hi v n xs hown
    unfold Oper.wp
    simp [execOp, ho, resolve, invoke, builtin, hs, hx, hrun, Result.andThen]
    exact h v w (by simpa using hown) ⟨rfl, rfl, rfl, Nat.le_refl _, fun _ _ _ => rfl⟩
  · refine wp_append_own w s x t ho base e i z size bytes ht hi hz hsize hby hzs hsz v n xs hs hown ⟨b, o', none⟩ m cap news hx hl ?_ h1 h63 hbytes hbase (fun v' w' h2 h3 _ => h v' w' h2 h3)
    intro j u hj
    have := r j u hj
    by_cases h0 : j = 0
    · subst h0; simpa [Addr.add] using this
    · simpa [Addr.add, h0] using this

theorem new_at {w : World} {o : Obj} {g : Nat} (h : g = w.heap.size) : (w.alloc o).heap[g]? = some o := by subst h; exact heap_alloc_new w o
theorem cell_bel {B : Nat} {a w : World} (h : Below B a w) (x : Addr) (hx : x.block < B) : w.cell? x = a.cell? x := World.cell?_of_block (h.block _ hx)
theorem own_empty {W : World} {g base : Nat} {e : TypeId} {size : Nat} (h : W.heap[g]? = some (.cells #[] e (0, 0))) (hb : base ≤ g) : W.ownsRow base e size (.slice (some ⟨g, 0, none⟩) 0 0) 0 [] :=
  ⟨by simp, Or.inr ⟨g, 0, #[], rfl, hb, h, Nat.le_refl _, by unfold maxLen; omega, by simp, by simp⟩⟩
theorem one_row {W : World} {g : Nat} {e : TypeId} {x : Value} (h : W.heap[g]? = some (.cells #[x] e (0, 0))) : RowAt (fun _ => True) W (.slice (some ⟨g, 0, none⟩) 1 1) 1 1 [x] := by
  refine ⟨rfl, Or.inr ⟨g, 0, 1, rfl, trivial, lt_of_block h, Nat.le_refl _, by unfold maxLen; omega, fun j u hj => ?_⟩⟩
  match j, hj with
  | 0, hj => simp at hj; subst hj; simp [World.cell?, h]

theorem three_row {W : World} {g : Nat} {e : TypeId} {x y z : Value} (h : W.heap[g]? = some (.cells #[x, y, z] e (0, 0))) : RowAt (fun _ => True) W (.slice (some ⟨g, 0, none⟩) 1 1) 3 1 [x, y, z] := by
  refine ⟨rfl, Or.inr ⟨g, 0, 1, rfl, trivial, lt_of_block h, Nat.le_refl _, by unfold maxLen; omega, fun j u hj => ?_⟩⟩
  match j, hj with
  | 0, hj => simp at hj; subst hj; simp [World.cell?, h]
  | 1, hj => simp at hj; subst hj; simp [World.cell?, h]
  | 2, hj => simp at hj; subst hj; simp [World.cell?, h]

/-! ### ints -/
def intCells (xs : List Int) : List Value := xs.map (Value.int .i64)
theorem intCells_length (xs : List Int) : (intCells xs).length = xs.length * 1 := by simp [intCells]
def IntsAt (F : Nat → Prop) (w : World) (v : Value) (xs : List Int) : Prop := RowAt F w v 1 xs.length (intCells xs)

theorem IntsAt.below {F : Nat → Prop} {w w' : World} {v : Value} {xs : List Int} (h : IntsAt F w v xs) (hb : Below w.heap.size w w') : IntsAt F w' v xs := RowAt.below h hb
theorem IntsAt.get {F : Nat → Prop} {w : World} {ao : Option Addr} {n cap : Nat} {xs : List Int} (h : IntsAt F w (.slice ao n cap) xs) {i : Nat} (hi : i < xs.length) : ∃ b o, ao = some ⟨b, o, none⟩ ∧ w.cell? ⟨b, o + i, none⟩ = some (.int .i64 xs[i]) := by
  rcases h.2 with ⟨_, h0⟩ | ⟨b, o, cap', he, _, _, _, _, r⟩
  · omega
  · cases he
    refine ⟨b, o, rfl, ?_⟩
    apply r i
    simp [intCells, hi]
theorem IntsAt.len {F : Nat → Prop} {w : World} {ao : Option Addr} {n cap : Nat} {xs : List Int} (h : IntsAt F w (.slice ao n cap) xs) : n = xs.length := by
  rcases h.2 with ⟨he, h0⟩ | ⟨b, o, cap', he, _⟩
  · cases he; exact h0.symm
  · cases he; rfl
theorem IntsAt.maxLen {F : Nat → Prop} {w : World} {v : Value} {xs : List Int} (h : IntsAt F w v xs) : xs.length ≤ 9223372036854775807 := by
  obtain ⟨ao, cap, _, h1, h2⟩ := RowAt.slice h
  unfold Go.maxLen at h2
  omega

/-! ### runs: each beside the slice of its offsets -/
abbrev RV := En.Rn × Value
def runCells (l : List RV) : List Value := l.flatMap fun x => [.int .i64 x.1.step, x.2, .int .i64 x.1.first]
theorem runCells_length (l : List RV) : (runCells l).length = l.length * 3 := by
  induction l with
  | nil => rfl
  | cons x r ih => simp [runCells] at ih ⊢; omega
theorem runCells_append (l m : List RV) : runCells (l ++ m) = runCells l ++ runCells m := by simp [runCells]
theorem runCells_drop (l : List RV) (n : Nat) : (runCells l).drop (n * 3) = runCells (l.drop n) := by
  induction n generalizing l with
  | zero => simp
  | succ n ih =>
    cases l with
    | nil => simp [runCells]
    | cons x r =>
      have := ih r
      simp only [runCells, List.flatMap_cons, List.drop_succ_cons] at this ⊢
      rw [show (n + 1) * 3 = n * 3 + 3 by omega, ← this]
      rfl
theorem runCells_take (l : List RV) (n : Nat) : (runCells l).take (n * 3) = runCells (l.take n) := by
  induction n generalizing l with
  | zero => simp [runCells]
  | succ n ih =>
    cases l with
    | nil => simp [runCells]
    | cons x r =>
      have := ih r
      simp only [runCells, List.flatMap_cons, List.take_succ_cons] at this ⊢
      rw [show (n + 1) * 3 = n * 3 + 3 by omega, ← this]
      rfl
theorem runCells_get (l : List RV) (i : Nat) (h : i < l.length) : (runCells l)[i * 3 + 0]? = some (.int .i64 l[i].1.step) ∧ (runCells l)[i * 3 + 1]? = some l[i].2 ∧ (runCells l)[i * 3 + 2]? = some (.int .i64 l[i].1.first) := by
  have hd : (runCells l).drop (i * 3) = runCells (l[i] :: l.drop (i + 1)) := by rw [runCells_drop, List.drop_eq_getElem_cons h]
  refine ⟨?_, ?_, ?_⟩
  all_goals
    rw [← List.getElem?_drop, hd]
    rfl

structure RunsAt (F : Nat → Prop) (w : World) (v : Value) (l : List RV) : Prop where
  row : RowAt F w v 3 l.length (runCells l)
  offs : ∀ x ∈ l, IntsAt F w x.2 x.1.offs

theorem RunsAt.mono {F G : Nat → Prop} {w : World} {v : Value} {l : List RV} (h : RunsAt F w v l) (hFG : ∀ b, b < w.heap.size → F b → G b) : RunsAt G w v l :=
  ⟨h.row.mono hFG, fun x hx => RowAt.mono (h.offs x hx) hFG⟩
theorem RunsAt.frame {F : Nat → Prop} {w w' : World} {v : Value} {l : List RV} (h : RunsAt F w v l) (hs : w.heap.size ≤ w'.heap.size) (hF : ∀ b, b < w.heap.size → F b → w'.heap[b]? = w.heap[b]?) : RunsAt F w' v l :=
  ⟨h.row.frame hs hF, fun x hx => RowAt.frame (h.offs x hx) hs hF⟩
theorem RunsAt.below {F : Nat → Prop} {w w' : World} {v : Value} {l : List RV} (h : RunsAt F w v l) (hb : Below w.heap.size w w') : RunsAt F w' v l :=
  h.frame hb.size (fun b hb' _ => hb.block b hb')
theorem RunsAt.get {F : Nat → Prop} {w : World} {ao : Option Addr} {n cap : Nat} {l : List RV} (h : RunsAt F w (.slice ao n cap) l) {i : Nat} (hi : i < l.length) :
    ∃ b o, ao = some ⟨b, o, none⟩ ∧ b < w.heap.size ∧ w.cell? ⟨b, o + i * 3, none⟩ = some (.int .i64 l[i].1.step) ∧ w.cell? ⟨b, o + i * 3 + 1, none⟩ = some l[i].2 ∧ w.cell? ⟨b, o + i * 3 + 2, none⟩ = some (.int .i64 l[i].1.first) := by
  rcases h.row.2 with ⟨_, h0⟩ | ⟨b, o, cap', he, _, hb, _, _, r⟩
  · omega
  · cases he
    obtain ⟨g0, g1, g2⟩ := runCells_get l i hi
    exact ⟨b, o, rfl, hb, r _ _ g0, r _ _ g1, r _ _ g2⟩
theorem RunsAt.slice {F : Nat → Prop} {w : World} {v : Value} {l : List RV} (h : RunsAt F w v l) : ∃ ao cap, v = .slice ao l.length cap ∧ l.length ≤ cap ∧ cap ≤ maxLen := RowAt.slice h.row
theorem oneCell_runs {F : Nat → Prop} {w : World} (l : List RV) (h : ∀ x ∈ l, IntsAt F w x.2 x.1.offs) : ∀ u ∈ runCells l, u.oneCell' = true := by
  intro u hu
  simp only [runCells, List.mem_flatMap] at hu
  obtain ⟨x, hx, hu⟩ := hu
  obtain ⟨ao, cap, hv, _⟩ := RowAt.slice (h x hx)
  rw [hv] at hu
  simp at hu
  rcases hu with rfl | rfl | rfl <;> rfl

/-! ### events -/
def evCells (l : List En.Ev) : List Value := l.flatMap fun x => [.int .i64 x.off, .int .i32 x.kind, .int .i64 x.time]
theorem evCells_length (l : List En.Ev) : (evCells l).length = l.length * 3 := by
  induction l with
  | nil => rfl
  | cons x r ih => simp [evCells] at ih ⊢; omega
theorem evCells_drop (l : List En.Ev) (n : Nat) : (evCells l).drop (n * 3) = evCells (l.drop n) := by
  induction n generalizing l with
  | zero => simp
  | succ n ih =>
    cases l with
    | nil => simp [evCells]
    | cons x r =>
      have := ih r
      simp only [evCells, List.flatMap_cons, List.drop_succ_cons] at this ⊢
      rw [show (n + 1) * 3 = n * 3 + 3 by omega, ← this]
      rfl
theorem evCells_take (l : List En.Ev) (n : Nat) : (evCells l).take (n * 3) = evCells (l.take n) := by
  induction n generalizing l with
  | zero => simp [evCells]
  | succ n ih =>
    cases l with
    | nil => simp [evCells]
    | cons x r =>
      have := ih r
      simp only [evCells, List.flatMap_cons, List.take_succ_cons] at this ⊢
      rw [show (n + 1) * 3 = n * 3 + 3 by omega, ← this]
      rfl
theorem evCells_get (l : List En.Ev) (i : Nat) (h : i < l.length) : (evCells l)[i * 3 + 0]? = some (.int .i64 l[i].off) ∧ (evCells l)[i * 3 + 1]? = some (.int .i32 l[i].kind) ∧ (evCells l)[i * 3 + 2]? = some (.int .i64 l[i].time) := by
  have hd : (evCells l).drop (i * 3) = evCells (l[i] :: l.drop (i + 1)) := by rw [evCells_drop, List.drop_eq_getElem_cons h]
  refine ⟨?_, ?_, ?_⟩
  all_goals
    rw [← List.getElem?_drop, hd]
    rfl
theorem oneCell_evs (l : List En.Ev) : ∀ u ∈ evCells l, u.oneCell' = true := by
  intro u hu
  simp only [evCells, List.mem_flatMap] at hu
  obtain ⟨x, hx, hu⟩ := hu
  simp at hu
  rcases hu with rfl | rfl | rfl <;> rfl
theorem oneCell_ints (l : List Int) : ∀ u ∈ intCells l, u.oneCell' = true := by
  intro u hu
  simp only [intCells, List.mem_map] at hu
  obtain ⟨x, hx, rfl⟩ := hu
  rfl
def EvsAt (F : Nat → Prop) (w : World) (v : Value) (l : List En.Ev) : Prop := RowAt F w v 3 l.length (evCells l)
theorem EvsAt.below {F : Nat → Prop} {w w' : World} {v : Value} {l : List En.Ev} (h : EvsAt F w v l) (hb : Below w.heap.size w w') : EvsAt F w' v l := RowAt.below h hb
theorem EvsAt.get {F : Nat → Prop} {w : World} {ao : Option Addr} {n cap : Nat} {l : List En.Ev} (h : EvsAt F w (.slice ao n cap) l) {i : Nat} (hi : i < l.length) :
    ∃ b o, ao = some ⟨b, o, none⟩ ∧ b < w.heap.size ∧ w.cell? ⟨b, o + i * 3, none⟩ = some (.int .i64 l[i].off) ∧ w.cell? ⟨b, o + i * 3 + 1, none⟩ = some (.int .i32 l[i].kind) ∧ w.cell? ⟨b, o + i * 3 + 2, none⟩ = some (.int .i64 l[i].time) := by
  rcases h.2 with ⟨_, h0⟩ | ⟨b, o, cap', he, _, hb, _, _, r⟩
  · omega
  · cases he
    obtain ⟨g0, g1, g2⟩ := evCells_get l i hi
    exact ⟨b, o, rfl, hb, r _ _ g0, r _ _ g1, r _ _ g2⟩

end Go.Proofs.YtfldcmdhneegmabGreatDoor
