/-
  package chain's WALK of Resolve; bytes.Clone.
-/
import Derived.Test.YtfldcmdhneegmaaRsI
namespace Go.Proofs.Ytfldcmdhneegmaa
open Go.RowKit Go.Lib Go.Shelf

set_option maxHeartbeats 1000000 in
set_option maxRecDepth 1000000 in
theorem bClone_any (F : Nat → Prop) (u : Value) (m : List UInt8) (w : World) (hu : BytesAt F w u m) (hm : m.length ≤ 100000000) :
    Calls Try.prog 10 #[u] w fun e w' => ∃ v', e = .returned v' ∧ w'.ownsRow w.heap.size 5 1 v' m.length (byteCells m) ∧ Below w.heap.size w w' := by
  obtain ⟨i0, hi, hz0, hz1, hz2⟩ := info_parts Try.infoByteW
  obtain ⟨ao, cap, rfl, -, -⟩ := RowAt.slice hu
  cases ao with
  | none =>
    have hm0 : m = [] ∧ cap = 0 := by
      rcases hu.2 with ⟨he, h0⟩ | ⟨b, o, cap', he, _⟩
      · injection he with h1 h2 h3
        exact ⟨List.eq_nil_of_length_eq_zero h2, h3⟩
      · cases he
    obtain ⟨rfl, rfl⟩ := hm0
    have hnil : ∀ W, (binOp .eql 24 (.slice none 0 0) (.slice none 0 0)).run Try.prog W = .ok (.bool true) W := fun W => Lib.run_eql_slice_nil W _ _ none _ _ _ _ Try.underlying24
    clear hu
    go_enter Try.func10, Try.ntmps10
    go_wp2
    go_ret
    exact ⟨_, rfl, ⟨rfl, Or.inl ⟨rfl, rfl⟩⟩, Below.refl _ _⟩
  | some a =>
    have HU := hid hu
    have hnil : ∀ W, (binOp .eql 24 (.slice (some a) m.length cap) (.slice none 0 0)).run Try.prog W = .ok (.bool false) W := fun W => Lib.run_eql_slice_nil W _ _ (some a) _ _ _ _ Try.underlying24
    clear hu
    go_enter Try.func10, Try.ntmps10
    go_wp2_with (at_builtin; refine wpList_append_row rfl _ _ 24 rfl w.heap.size 5 i0 (.int .u8 0) 1 1 Try.underlying24 hi hz0 hz1 hz2 rfl (by decide) _ 0 [] rfl (own_nothing (new_at rfl) (Nat.le_refl _)) F _ m.length (byteCells m) rfl (BytesAt.below HU.out ((Below.refl _ _).alloc (Nat.le_refl _) _)) (oneCell_bytes _) (by unfold maxLen; omega) (by omega) (by simp) ?_)
    intro v' w2 hown' hg
    have hb2 : Below w.heap.size w w2 := ((Below.refl _ w).alloc (Nat.le_refl _) _).grown hg (by simp) (fun k hk => by simp [Value.ownBlock] at hk; omega)
    have HB := hid (And.intro hown' hb2)
    clear hown' hg hb2
    go_wp2
    go_ret
    refine ⟨_, rfl, ?_, HB.out.2⟩
    have := HB.out.1
    simpa using this

/-- A row of frames. -/
def FrsAt (F : Nat → Prop) (w : World) (v : Value) (cs : List Value) (fs : List (List UInt8)) : Prop :=
  RowAt F w v 1 fs.length cs ∧ ∀ j (h : j < fs.length), ∃ c, cs[j]? = some c ∧ c ≠ .slice none 0 0 ∧ BytesAt (U8 w) w c fs[j]
theorem FrsAt.below {F : Nat → Prop} {w w' : World} {v : Value} {cs : List Value} {fs : List (List UInt8)} (h : FrsAt F w v cs fs) (hb : Below w.heap.size w w') : FrsAt F w' v cs fs := by
  refine ⟨RowAt.below h.1 hb, fun j hj => ?_⟩
  obtain ⟨c, h1, h2, h3⟩ := h.2 j hj
  exact ⟨c, h1, h2, RowAt.mono (BytesAt.below h3 hb) (fun i _ hi => by obtain ⟨c, fz, hh⟩ := hi; exact ⟨c, fz, (hb.block i (lt_of_block hh)).trans hh⟩)⟩
theorem FrsAt.get {F : Nat → Prop} {w : World} {ao : Option Addr} {n cap : Nat} {cs : List Value} {fs : List (List UInt8)} (h : FrsAt F w (.slice ao n cap) cs fs) {i : Nat} (hi : i < fs.length) : ∃ b o a' n' q', ao = some ⟨b, o, none⟩ ∧ w.cell? ⟨b, o + i, none⟩ = some (.slice (some a') n' q') ∧ BytesAt (U8 w) w (.slice (some a') n' q') fs[i] ∧ b < w.heap.size := by
  obtain ⟨c, h1, h2, h3⟩ := h.2 i hi
  obtain ⟨a', n', q', rfl⟩ := BytesAt.isSlice h3 h2
  rcases h.1.2 with ⟨_, h0⟩ | ⟨b, o, cap', he, _, hb, _, _, r⟩
  · omega
  · cases he
    exact ⟨b, o, a', n', q', rfl, r i _ h1, h3, hb⟩
theorem KeepAt.five {base : Nat} {w : World} {r : Nat} {M : Nat → Nat → List (Value × List UInt8)} (h : KeepAt base w r M) {b : Nat} {x y z u v : Value} {t : TypeId} (hb : w.heap[b]? = some (.cells #[x, y, z, u, v] t (0, 0))) (h1 : t ≠ 24) (h2 : t ≠ 5) (x' y' z' u' v' : Value) : KeepAt base (five w b x' y' z' u' v') r M := by
  have s1 := (set_five hb x').1
  have s2 := (set_five s1 y').2.1
  have s3 := (set_five s2 z').2.2.1
  have s4 := (set_five s3 u').2.2.2.1
  exact ((((h.set hb h1 h2 0 x').set s1 h1 h2 1 y').set s2 h1 h2 2 z').set s3 h1 h2 3 u').set s4 h1 h2 4 v'
/-- A block of five states, new and written. -/
theorem five_new {w1 W1 W2 : World} {x y z u v x' y' z' u' v' : Value} (hW1 : w1.alloc (.cells #[x, y, z, u, v] 35) = W1) (hW2 : five W1 w1.heap.size x' y' z' u' v' = W2) :
    (∀ c t, StAt w1 c t → StAt W2 c t) ∧ (∀ base r M, KeepAt base w1 r M → KeepAt base W2 r M) ∧ W2.heap[w1.heap.size]? = some (.cells #[x', y', z', u', v'] 35 (0, 0)) ∧ Below w1.heap.size w1 W2 := by
  subst hW1
  subst hW2
  have hb := heap_alloc_new w1 (.cells #[x, y, z, u, v] 35)
  have hbel : Below w1.heap.size w1 (w1.alloc (.cells #[x, y, z, u, v] 35)) := (Below.refl _ _).alloc (Nat.le_refl _) _
  refine ⟨fun c t h => ?_, fun base r M h => (h.below hbel).five hb (by decide) (by decide) _ _ _ _ _, five_at hb _ _ _ _ _, five_below hbel (Nat.le_refl _) _ _ _ _ _⟩
  have h' : StO (w1.alloc (.cells #[x, y, z, u, v] 35)) (some (c, t)) := fun c' t' e => by cases e; exact h.below hbel
  exact h'.five hb (by decide) x' y' z' u' v' c t rfl
/-- What newest is. -/
def NewAt (w : World) (v : Value) (t : List UInt8) : Prop := (v = .slice none 0 0 ∧ t = []) ∨ StAt w v t
theorem NewAt.bytes {w : World} {v : Value} {t : List UInt8} (h : NewAt w v t) : BytesAt (U8 w) w v t := by
  rcases h with ⟨rfl, rfl⟩ | h
  · exact ⟨rfl, Or.inl ⟨rfl, rfl⟩⟩
  · exact h.2.1
theorem NewAt.on {w w' : World} {v : Value} {t : List UInt8} (h : NewAt w v t) (hs : ∀ c t, StAt w c t → StAt w' c t) : NewAt w' v t := h.imp_right (hs v t)
theorem NewAt.slice {w : World} {v : Value} {t : List UInt8} (h : NewAt w v t) : t.length ≤ 400000 := by
  rcases h with ⟨-, rfl⟩ | h
  · simp
  · exact h.2.2.2
/-- What Resolve answers. -/
def ResolveEnd (t : List UInt8) (n : Int) (w : World) (e : Ending) (w' : World) : Prop :=
  ∃ v, e = .returned (.tuple #[v, .int .i64 n]) ∧ w'.ownsRow w.heap.size 5 1 v t.length (byteCells t) ∧ Below w.heap.size w w'

theorem cell_slice {w : World} (fo : Nat → Option (Value × List UInt8)) (hfo : ∀ k c x, k < 5 → fo k = some (c, x) → StAt w c x) (k : Nat) (hk : k < 5) : ∃ a n c, cellO (fo k) = .slice a n c := by
  cases hf : fo k with
  | none => exact ⟨_, _, _, rfl⟩
  | some y =>
    obtain ⟨c, x⟩ := y
    obtain ⟨h1, h2, -⟩ := hfo k c x hk hf
    obtain ⟨a, n, cc, h⟩ := BytesAt.isSlice h2 h1
    exact ⟨_, _, _, h⟩
theorem BytesAt.isRow {F : Nat → Prop} {w : World} {v : Value} {t : List UInt8} (h : BytesAt F w v t) : ∃ a n c, v = .slice a n c := by
  obtain ⟨ao, cap, rfl, -, -⟩ := RowAt.slice h
  exact ⟨_, _, _, rfl⟩

set_option maxHeartbeats 4000000 in
set_option maxRecDepth 1000000 in
theorem cResolve_any (F : Nat → Prop) (v : Value) (cs : List Value) (fs : List (List UInt8)) (w : World) (hv : FrsAt F w v cs fs) (hL : ∀ f ∈ fs, f.length ≤ 65536) (hfl : fs.length ≤ 100) :
    Calls Try.prog 6 #[v] w (ResolveEnd (Fr.resolve fs).1 (Fr.resolve fs).2 w) := by
  obtain ⟨ao, cap, rfl, -, -⟩ := RowAt.slice hv.1
  have HV := hid hv
  clear hv
  obtain ⟨W0, hW0⟩ : ∃ W, w.alloc (.map #[] 0) = W := ⟨_, rfl⟩
  have hmk : (Instr.makeMap 33 none).run Try.prog w = .ok (.map (some w.heap.size)) W0 := by rw [← hW0]; rfl
  have hb0 : Below w.heap.size w W0 := by rw [← hW0]; exact (Below.refl _ _).alloc (Nat.le_refl _) _
  have hK0 : KeepAt w.heap.size W0 w.heap.size (fun _ _ => []) := by
    refine ⟨[], ⟨#[], 0, by rw [← hW0]; exact heap_alloc_new _ _, [], rfl, rfl⟩, fun s k => ⟨⟨rfl, Or.inl ⟨rfl, rfl⟩⟩, fun p hp => by cases hp⟩, fun _ _ _ _ _ => Or.inl rfl⟩
  have H0 := hid (And.intro hb0 hK0)
  clear hW0 hb0 hK0
  go_enter Try.func6, Try.ntmps6
  go_wp2
  go_loopw [5, 6, 14] (fun a b c wr => ∃ (i : Nat) (M : Nat → Nat → List (Value × List UInt8)), i ≤ fs.length ∧ c = .int .i64 i ∧ b = .int .i64 (Fr.resolveTo fs i).2 ∧ Hid (NewAt wr a (Fr.resolveTo fs i).1 ∧ KeepAt w.heap.size wr w.heap.size M ∧ Inv fs i M ∧ Below w.heap.size w wr)) (fun _ _ c _ => fs.length - (intOf c).toNat)
  case atStart => exact ⟨0, _, by omega, rfl, rfl, Or.inl ⟨rfl, rfl⟩, H0.out.2, Inv.zero fs, H0.out.1⟩
  case round =>
    obtain ⟨i, M, hi, rfl, rfl, hr⟩ := hrel
    by_cases hlt : i < fs.length
    · have hlt' : (i : Int) < fs.length := by omega
      obtain ⟨b, o, af, nf, qf, rfl, hc, hf, hbl⟩ := (HV.out.below hr.out.2.2.2).get hlt
      have hgd : fs.getD i [] = fs[i] := by simp [hlt]
      have HS := hid (statesOf_any w.heap.size w.heap.size M _ fs[i] wr hr.out.2.1 hf (by intro e; cases e) (hL _ (List.getElem_mem hlt)) (fun s k => by have := hr.out.2.2.1.1 s k; omega) (fun k t hk ht => hr.out.2.2.1.bounds hL hgd k t hk ht))
      clear hf
      go_wp2_with (first
        | (go_at_call 8; refine HS.out.mono ?_; rintro e w1 ⟨hb1, fo, rfl, ho1, ho2⟩; obtain ⟨a0, n0, q0, h0⟩ := cell_slice fo ho2 0 (by omega); obtain ⟨a1, n1, q1, h1⟩ := cell_slice fo ho2 1 (by omega); obtain ⟨a2, n2, q2, h2⟩ := cell_slice fo ho2 2 (by omega); obtain ⟨a3, n3, q3, h3⟩ := cell_slice fo ho2 3 (by omega); obtain ⟨a4, n4, q4, h4⟩ := cell_slice fo ho2 4 (by omega); rw [h0, h1, h2, h3, h4]; obtain ⟨W1, hW1⟩ : ∃ W, w1.alloc (.cells #[.slice none 0 0, .slice none 0 0, .slice none 0 0, .slice none 0 0, .slice none 0 0] 35) = W := ⟨_, rfl⟩; have kB : W1.heap[w1.heap.size]? = some (.cells #[.slice none 0 0, .slice none 0 0, .slice none 0 0, .slice none 0 0, .slice none 0 0] 35 (0, 0)) := (by rw [← hW1]; exact heap_alloc_new _ _); have hlt1 := lt_of_block kB; obtain ⟨c0, c1, c2, c3, c4, cz⟩ := blk_five kB; obtain ⟨W2, hW2⟩ : ∃ W, five W1 w1.heap.size (.slice a0 n0 q0) (.slice a1 n1 q1) (.slice a2 n2 q2) (.slice a3 n3 q3) (.slice a4 n4 q4) = W := ⟨_, rfl⟩; have HN := hid (five_new hW1 hW2); obtain ⟨d0, d1, d2, d3, d4, dz⟩ := blk_five HN.out.2.2.1; have hlt2 := lt_of_block HN.out.2.2.1; unfold five at hW2; have H1 := hid (And.intro hb1 (And.intro ho1 (And.intro ho2 (And.intro h0 (And.intro h1 (And.intro h2 (And.intro h3 h4))))))); clear hb1 ho1 ho2 h0 h1 h2 h3 h4 kB)
        | (go_at_call 9; rw [← H1.out.2.2.2.1, ← H1.out.2.2.2.2.1, ← H1.out.2.2.2.2.2.1, ← H1.out.2.2.2.2.2.2.1, ← H1.out.2.2.2.2.2.2.2]; refine (keep_any w.heap.size w.heap.size M fo W2 (HN.out.2.1 _ _ _ (hr.out.2.1.below H1.out.1)) (Nat.le_refl _) (by have := H1.out.1.size; have := hr.out.2.2.2.size; omega) (fun k c x hk hf => HN.out.1 c x (H1.out.2.2.1 k c x hk hf)) (fun k s n _ => by have := keepM_len (fo := fo) hr.out.2.2.1.1 k s n; omega)).mono ?_; rintro e w3 ⟨rfl, hk3, kt3, hb3⟩; obtain ⟨g0, g1, g2, g3, g4, gz⟩ := blk_five ((kt3.2 _ _ _ _ HN.out.2.2.1 (by decide)).trans HN.out.2.2.1); have hlt3 : w1.heap.size < w3.heap.size := Nat.lt_of_lt_of_le hlt2 kt3.1; have H3 := hid (And.intro hk3 (And.intro kt3 hb3)); clear hk3 kt3 hb3))
      all_goals
        rename_i hcond
        have hst : ∀ c t, StAt wr c t → StAt w3 c t := fun c t h => H3.out.2.1.st (HN.out.1 c t (h.below H1.out.1))
        have hInv := hr.out.2.2.1.succ (fo := fo) (fun k hk => (H1.out.2.1 k hk).trans (hr.out.2.2.1.stOf hL hgd k hk))
        have h4 := (H1.out.2.1 4 (by omega)).trans (hr.out.2.2.1.stOf hL hgd 4 (by omega))
        have hbel : Below w.heap.size w w3 := ((hr.out.2.2.2.trans (H1.out.1.mono hr.out.2.2.2.size)).trans (HN.out.2.2.2.mono (by have := H1.out.1.size; have := hr.out.2.2.2.size; omega))).trans H3.out.2.2
        have e1 : Fr.resolveTo fs (i + 1) = match Fr.stands fs 4 i with
          | some s => (s, (i : Int))
          | none => Fr.resolveTo fs i := rfl
        rw [← h4] at e1
      · cases hf4 : fo 4 with
        | none =>
          have := H1.out.2.2.2.2.2.2.2
          rw [hf4] at this
          unfold cellO at this
          injection this with h1 h2 h3
          rw [← h1] at hcond
          cases hcond
        | some y =>
          obtain ⟨c, x⟩ := y
          have hc := H1.out.2.2.2.2.2.2.2
          rw [hf4] at hc e1
          have hc' : c = .slice a4 n4 q4 := hc
          have e1' : Fr.resolveTo fs (i + 1) = (x, (i : Int)) := e1
          refine ⟨⟨i + 1, keepM M fo 5, by omega, by go_num, by rw [e1'], ?_, H3.out.1, hInv, hbel⟩, by simp [intOf]; omega⟩
          rw [e1', ← hc']
          exact Or.inr (H3.out.2.1.st (HN.out.1 c x (H1.out.2.2.1 4 c x (by omega) hf4)))
      · cases hf4 : fo 4 with
        | none =>
          rw [hf4] at e1
          have e1' : Fr.resolveTo fs (i + 1) = Fr.resolveTo fs i := e1
          refine ⟨⟨i + 1, keepM M fo 5, by omega, by go_num, by rw [e1'], ?_, H3.out.1, hInv, hbel⟩, by simp [intOf]; omega⟩
          rw [e1']
          exact hr.out.1.on hst
        | some y =>
          obtain ⟨c, x⟩ := y
          have hc := H1.out.2.2.2.2.2.2.2
          rw [hf4] at hc
          have hc' : c = .slice a4 n4 q4 := hc
          obtain ⟨h1, h2, -⟩ := H1.out.2.2.1 4 c x (by omega) hf4
          obtain ⟨a', n', q', h⟩ := BytesAt.isSlice h2 h1
          rw [h] at hc'
          injection hc' with k1 k2 k3
          rw [← k1] at hcond
          cases hcond
    · obtain rfl : i = fs.length := by omega
      obtain ⟨sa, ns, qs, hs⟩ := BytesAt.isRow hr.out.1.bytes
      subst hs
      go_wp2_with (go_at_call 10; refine (bClone_any (U8 wr) _ _ wr hr.out.1.bytes (by have := hr.out.1.slice; omega)).mono ?_; rintro e w1 ⟨v1, rfl, ho1, hb1⟩; have H1 := hid (And.intro ho1 hb1); clear ho1 hb1)
      go_ret2
      exact ⟨_, rfl, own_mono H1.out.1 hr.out.2.2.2.size, hr.out.2.2.2.trans (H1.out.2.mono hr.out.2.2.2.size)⟩

set_option maxHeartbeats 2000000 in
set_option maxRecDepth 1000000 in
theorem sResolve_any (F : Nat → Prop) (v : Value) (cs : List Value) (fs : List (List UInt8)) (w : World) (hv : FrsAt F w v cs fs) (hL : ∀ f ∈ fs, f.length ≤ 65536) (hfl : fs.length ≤ 100) :
    Calls Try.prog 4 #[v] w (ResolveEnd (Fr.resolve fs).1 (Fr.resolve fs).2 w) := by
  have HC := hid (cResolve_any F v cs fs w hv hL hfl)
  obtain ⟨ao, cap, rfl, -, -⟩ := RowAt.slice hv.1
  clear hv
  go_enter Try.func4, Try.ntmps4
  go_wp2_with (go_at_call 6; refine HC.out.mono ?_; rintro e w1 ⟨v1, rfl, ho1, hb1⟩; obtain ⟨a1, c1, rfl⟩ := own_slice ho1; have H1 := hid (And.intro ho1 hb1); clear ho1 hb1)
  go_ret2
  exact ⟨_, rfl, H1.out.1, H1.out.2⟩

end Go.Proofs.Ytfldcmdhneegmaa
