import Derived.Test.YtfldcmdhneegmabGreatDoorZ34
import Derived.Test.YtfldcmdhneegmabGreatDoorFrX
import Derived.Test.YtfldcmdhneegmabGreatDoorZ09

/-
  package chain's WALKS: fits, apply.
-/
namespace Go.Proofs.YtfldcmdhneegmabGreatDoor
open Go.RowKit Go.Lib

set_option maxHeartbeats 1000000 in
set_option maxRecDepth 1000000 in
theorem dFits_any (s p q L : Nat) (am : Addr) (n cm : Nat) (w : World) (hL : L ≤ 1000000) (hp : p < 18446744073709551616) :
    Calls Tryz.prog 97 #[dval s p q (.slice (some am) n cm), .int .i64 L] w fun e w' => e = .returned (.bool (!decide (L < p ∨ L - p < q))) ∧ Below w.heap.size w w' := by
  unfold dval
  by_cases h1 : p ≤ L
  · have h1' : decide ((p : Int) ≤ (L : Int)) = true := decide_eq_true (by omega)
    by_cases h2 : q ≤ L - p
    · have h2' : decide ((q : Int) ≤ (L : Int) - (p : Int)) = true := decide_eq_true (by omega)
      have hd : decide (L < p ∨ L - p < q) = false := decide_eq_false (by omega)
      rw [hd]
      go_enter Tryz.func97, Tryz.ntmps97
      go_wp2
      go_ret
      exact ⟨rfl, (Below.refl _ _).alloc (Nat.le_refl _) _⟩
    · have h2' : decide ((q : Int) ≤ (L : Int) - (p : Int)) = false := decide_eq_false (by omega)
      have hd : decide (L < p ∨ L - p < q) = true := decide_eq_true (by omega)
      rw [hd]
      go_enter Tryz.func97, Tryz.ntmps97
      go_wp2
      go_ret
      exact ⟨rfl, (Below.refl _ _).alloc (Nat.le_refl _) _⟩
  · have h1' : decide ((p : Int) ≤ (L : Int)) = false := decide_eq_false (by omega)
    have hd : decide (L < p ∨ L - p < q) = true := decide_eq_true (by omega)
    rw [hd]
    go_enter Tryz.func97, Tryz.ntmps97
    go_wp2
    go_ret
    exact ⟨rfl, (Below.refl _ _).alloc (Nat.le_refl _) _⟩

theorem BytesAt.headU {F : Nat → Prop} {w : World} {a : Addr} {cap : Nat} {l : List UInt8} (h : BytesAt F w (.slice (some a) l.length cap) l) (i : Int) (k : Nat) (hi : i = k) (hk : k ≤ l.length) (hc : l.length ≤ cap) :
    ∃ a' n' c', (∀ W, (Instr.slice 25 (.slice (some a) l.length cap) none (some (.int .u64 i)) none).run Tryz.prog W = .ok (.slice (some a') n' c') W) ∧ BytesAt F w (.slice (some a') n' c') (l.take k) := by
  subst hi
  have hsl : ∃ a' n' c', Go.sliced (some a) 0 k cap 1 = .slice (some a') n' c' := by
    unfold Go.sliced
    split
    · exact ⟨_, _, _, rfl⟩
    · exact ⟨_, _, _, rfl⟩
  obtain ⟨a', n', c', e⟩ := hsl
  refine ⟨a', n', c', fun W => ?_, e ▸ h.to k hk⟩
  rw [← e, run_slice_h W 25 (some a) l.length cap (by rw [Tryz.elemBytes]; exact Tryz.underlying25) .u64 k (by omega) (by omega), Tryz.elemBytes, Tryz.sizeOf5]
  simp [Result.andThen]
theorem BytesAt.tailU {F : Nat → Prop} {w : World} {a : Addr} {cap : Nat} {l : List UInt8} (h : BytesAt F w (.slice (some a) l.length cap) l) (i : Int) (k : Nat) (hi : i = k) (hk : k ≤ l.length) :
    ∃ a' n' c', (∀ W, (Instr.slice 25 (.slice (some a) l.length cap) (some (.int .u64 i)) none none).run Tryz.prog W = .ok (.slice (some a') n' c') W) ∧ BytesAt F w (.slice (some a') n' c') (l.drop k) := by
  subst hi
  have hsl : ∃ a' n' c', Go.sliced (some a) k l.length cap 1 = .slice (some a') n' c' := by
    unfold Go.sliced
    split
    · exact ⟨_, _, _, rfl⟩
    · exact ⟨_, _, _, rfl⟩
  obtain ⟨a', n', c', e⟩ := hsl
  refine ⟨a', n', c', fun W => ?_, e ▸ h.from k hk⟩
  rw [← e, run_slice_l W 25 (some a) l.length cap (by rw [Tryz.elemBytes]; exact Tryz.underlying25) .u64 k (by omega) (by omega), Tryz.elemBytes, Tryz.sizeOf5]
  simp [Result.andThen]

/-- An error that becomes a number. -/
def ErrNo (c : Int) (v : Value) : Prop :=
  (c = 6 ∧ ∃ n m : Int, v = .iface 105 (.agg #[.int .u32 n, .int .u32 m])) ∨ (c = 5 ∧ ((∃ (n : Int) (s : ByteArray), v = .iface 101 (.agg #[.int .i64 n, .string s])) ∨ ∃ s : ByteArray, v = .iface 103 (.agg #[.string s])))
/-- What apply answers. -/
def ApEnd (r : List UInt8 × Int) (w : World) (e : Ending) (w' : World) : Prop :=
  Below w.heap.size w w' ∧ ((r.2 = 0 ∧ ∃ v, e = .returned (.tuple #[v, .nilIface]) ∧ w'.ownsRow w.heap.size 5 1 v r.1.length (byteCells r.1)) ∨ (r.1 = [] ∧ ∃ v, e = .returned (.tuple #[.slice none 0 0, v]) ∧ ErrNo r.2 v))

set_option maxHeartbeats 4000000 in
set_option maxRecDepth 1000000 in
theorem dApply_any (F G : Nat → Prop) (v : Value) (a m : List UInt8) (s p q : Nat) (am : Addr) (n cm : Nat) (w : World) (hv : BytesAt F w v a) (hm : BytesAt G w (.slice (some am) n cm) m) (h5 : 5 ≤ a.length) (ha : a.length ≤ 500000) (hml : m.length ≤ 100000) (hp : p < 18446744073709551616) (hq : q < 18446744073709551616) :
    Calls Tryz.prog 47 #[dval s p q (.slice (some am) n cm), v] w (ApEnd (Fr.applyIn a s p q m) w) := by
  obtain ⟨ao, ca, rfl, hca, -⟩ := RowAt.slice hv
  obtain ⟨b1, o1, rfl, -⟩ := BytesAt.get hv (i := 0) (by omega)
  have hsz : ∀ o, (w.alloc o).heap.size = w.heap.size + 1 := fun o => by simp
  have HSZ := hid hsz
  have HV := hid hv
  have HM := hid hm
  have HSum := hid (fun o => fSumOf_any F _ a (w.alloc o) (hv.below ((Below.refl _ _).alloc (Nat.le_refl _) _)) (by omega) (by omega))
  have hv32 := Fr.val_lt (a.drop (a.length - 4))
  clear hsz hv hm
  by_cases c1 : s = Fr.val (Fr.last4 a)
  · have c1' : ((Fr.val (a.drop (a.length - 4)) : Int) != (s : Int)) = false := by rw [c1]; simp [Fr.last4]
    by_cases c2 : a.length < p ∨ a.length - p < q
    · have hr : Fr.applyIn a s p q m = ([], 5) := by unfold Fr.applyIn; rw [if_neg (show ¬ (s ≠ Fr.val (Fr.last4 a)) from fun h => h c1), if_pos c2]
      have hd : (!decide (a.length < p ∨ a.length - p < q)) = false := by rw [decide_eq_true c2]; rfl
      have HF := hid (fun W => dFits_any s p q a.length am n cm W (by omega) hp)
      rw [hd] at HF
      have HR := hid hr
      clear hr c1
      unfold dval at *
      go_enter Tryz.func47, Tryz.ntmps47
      go_wp2_with (first
        | (go_at_call 83; refine (HSum.out _).mono ?_; rintro e w1 ⟨rfl, hw⟩; subst hw)
        | (go_at_call 97; refine (HF.out _).mono ?_; rintro e w2 ⟨rfl, hb2⟩; have H2 := hid (((Below.refl _ w).alloc (Nat.le_refl _) _).trans (hb2.mono (by simp))); clear hb2))
      go_ret2
      rw [HR.out]
      exact ⟨H2.out, Or.inr ⟨rfl, _, rfl, Or.inr ⟨rfl, Or.inr ⟨_, rfl⟩⟩⟩⟩
    · have hpl : p ≤ a.length := by omega
      have hql : q ≤ a.length - p := by omega
      have hd : (!decide (a.length < p ∨ a.length - p < q)) = true := by rw [decide_eq_false c2]; rfl
      have HF := hid (fun W => dFits_any s p q a.length am n cm W (by omega) hp)
      rw [hd] at HF
      obtain ⟨a1, n1, k1, hs1, hv1⟩ := HV.out.headU (p : Int) p rfl hpl hca
      obtain ⟨a2, n2, k2, hs2, hv2⟩ := HV.out.tailU ((a.length : Int) - (q : Int)) (a.length - q) (by omega) (by omega)
      have hw1 : IntKind.u64.wrap (a.length : Int) = (a.length : Int) := wrap_u64 (by omega) (by omega)
      have hw2 : IntKind.u64.wrap ((a.length : Int) - (q : Int)) = (a.length : Int) - (q : Int) := wrap_u64 (by omega) (by omega)
      obtain ⟨to, hto⟩ : ∃ to, a.take p ++ m ++ a.drop (a.length - q) = to := ⟨_, rfl⟩
      have htl : to.length ≤ 600000 := by
        rw [← hto, List.length_append, List.length_append, List.length_take, List.length_drop]
        omega
      have hr : Fr.applyIn a s p q m = if (Fr.sound (a.take p ++ m ++ a.drop (a.length - q)) 83).isSome ∧ Fr.cp a (a.take p ++ m ++ a.drop (a.length - q)) = p ∧ Fr.cq a (a.take p ++ m ++ a.drop (a.length - q)) p = q then (a.take p ++ m ++ a.drop (a.length - q), 0) else ([], 5) := by
        unfold Fr.applyIn
        rw [if_neg (show ¬ (s ≠ Fr.val (Fr.last4 a)) from fun h => h c1), if_neg c2]
      rw [hto] at hr
      have HCC : Hid (∀ (W : World) (g : Nat), W.heap[g]? = some (.cells #[.slice (some a1) n1 k1, .slice (some am) n cm, .slice (some a2) n2 k2] 25 (0, 0)) → Below w.heap.size w W → Calls Tryz.prog 98 #[.slice (some ⟨g, 0, none⟩) 3 3] W fun e w' => ∃ v, e = .returned v ∧ w'.ownsRow W.heap.size 5 1 v to.length (byteCells to) ∧ Below W.heap.size W w') := fun W g hg hb => by
        have h := concatB_three F G g _ _ _ (a.take p) m (a.drop (a.length - q)) W hg (hv1.below hb) (HM.out.below hb) (hv2.below hb) (by rw [List.length_take, List.length_drop]; omega)
        rw [hto] at h
        exact h
      have HR := hid hr
      clear hr c1 hv1 hv2 c2 hto
      unfold dval at *
      go_enter Tryz.func47, Tryz.ntmps47
      go_wp2_with (first
        | (go_at_call 83; refine (HSum.out _).mono ?_; rintro e w1 ⟨rfl, hw⟩; subst hw)
        | (go_at_call 97; refine (HF.out _).mono ?_; rintro e w2 ⟨rfl, hb2⟩; rw [HSZ.out] at hb2; obtain ⟨x0, x1, x2, x3⟩ := box_at hb2; have hlt2 := hb2.size; rw [HSZ.out] at hlt2; have H2 := hid (And.intro (((Below.refl _ w).alloc (Nat.le_refl _) _).trans (hb2.mono (by omega))) hb2); clear hb2))
      go_region_held3 (fun W => W.cell? ⟨w.heap.size, 1, none⟩ = some (.int .u64 p) ∧ W.cell? ⟨w.heap.size, 2, none⟩ = some (.int .u64 q) ∧ W.cell? ⟨w.heap.size, 3, none⟩ = some (.slice (some am) n cm)) (go_keep) ((go_at_call 98; refine (HCC.out _ _ (by first | exact heap_alloc_new w2 _ | exact new_at (by first | rfl | simp)) (by first | exact Below.drew (Below.alloc H2.out.1 H2.out.1.size _) | exact Below.alloc H2.out.1.drew H2.out.1.size _ | exact Below.alloc H2.out.1 H2.out.1.size _)).mono ?_; rintro e w3 ⟨v3, rfl, ho3, hb3⟩; have x1' := (cell_bel hb3 ⟨w.heap.size, 1, none⟩ (by simp; omega)).trans (show _ = some (Value.int IntKind.u64 p) from (World.cell?_alloc_lt w2 _ ⟨w.heap.size, 1, none⟩ hlt2).trans x1); have x2' := (cell_bel hb3 ⟨w.heap.size, 2, none⟩ (by simp; omega)).trans (show _ = some (Value.int IntKind.u64 q) from (World.cell?_alloc_lt w2 _ ⟨w.heap.size, 2, none⟩ hlt2).trans x2); have x3' := (cell_bel hb3 ⟨w.heap.size, 3, none⟩ (by simp; omega)).trans (show _ = some (Value.slice (some am) n cm) from (World.cell?_alloc_lt w2 _ ⟨w.heap.size, 3, none⟩ hlt2).trans x3); have H3 := hid (And.intro ho3 hb3); clear ho3 hb3))
      have hb3w : Below w.heap.size w w3 := (Below.drew (Below.alloc H2.out.1 H2.out.1.size _)).trans (H3.out.2.mono (by have := H2.out.1.size; simp; omega))
      have HB3 := hid hb3w
      have hlt3 : w.heap.size < w3.heap.size := by have := H3.out.2.size; simp at this; omega
      have hvt : BytesAt (fun _ => True) w3 v3 to := (RowAt.ofOwn H3.out.1).mono (fun _ _ _ => trivial)
      have HVT := hid hvt
      clear hb3w hvt
      cases hso : (Fr.sound to 83).isSome with
      | false =>
        have HSO := hid hso
        clear hso
        go_wp2_with (first | (go_at_call 35; refine (fCheckS_any (fun _ => True) v3 to _ HVT.out (by omega)).mono ?_; rintro e w4 ⟨hb4, he, he'⟩; obtain ⟨n4, s4, rfl⟩ := he' HSO.out; have y1 := (cell_bel hb4 ⟨w.heap.size, 1, none⟩ hlt3).trans x1'; have y2 := (cell_bel hb4 ⟨w.heap.size, 2, none⟩ hlt3).trans x2'; have H4 := hid (And.intro (HB3.out.trans (hb4.mono HB3.out.size)) hb4); clear hb4 he he'))
        go_ret2
        rw [HR.out, if_neg (by rw [HSO.out]; simp)]
        exact ⟨H4.out.1, Or.inr ⟨rfl, _, rfl, Or.inr ⟨rfl, Or.inl ⟨_, _, rfl⟩⟩⟩⟩
      | true =>
        have h5t := sound_four hso
        have HSO := hid hso
        clear hso
        obtain ⟨hcl, -⟩ := Fr.cp_le a to
        obtain ⟨hcq, -⟩ := Fr.cq_le a to (Fr.cp a to)
        by_cases hcp : Fr.cp a to = p
        · rw [hcp] at hcq
          by_cases hcc : Fr.cq a to p = q
          · have HX := hid (And.intro hcp hcc)
            have hn1 : ((p : Int) != (p : Int)) = false := by simp
            have hn2 : ((q : Int) != (q : Int)) = false := by simp
            clear hcp hcc
            go_wp2_with (first | (go_at_call 35; refine (fCheckS_any (fun _ => True) v3 to _ HVT.out (by omega)).mono ?_; rintro e w4 ⟨hb4, he, he'⟩; obtain rfl := he HSO.out; have y1 := (cell_bel hb4 ⟨w.heap.size, 1, none⟩ hlt3).trans x1'; have y2 := (cell_bel hb4 ⟨w.heap.size, 2, none⟩ hlt3).trans x2'; have hlt4 : w.heap.size < w4.heap.size := Nat.lt_of_lt_of_le hlt3 hb4.size; have H4 := hid (And.intro (HB3.out.trans (hb4.mono HB3.out.size)) hb4); clear hb4 he he') | (go_at_call 36; refine (between_any F (fun _ => True) _ v3 a to _ (HV.out.below H4.out.1) (HVT.out.below H4.out.2) (by omega) (by omega) (by omega) (by omega)).mono ?_; rintro e w5 ⟨am5, cm5, he, -, hb5⟩; rw [HX.out.1, HX.out.2] at he; subst he; unfold dval; have z1 := (cell_bel hb5 ⟨w.heap.size, 1, none⟩ hlt4).trans y1; have z2 := (cell_bel hb5 ⟨w.heap.size, 2, none⟩ hlt4).trans y2; have hlt5 : w.heap.size < w5.heap.size := Nat.lt_of_lt_of_le hlt4 hb5.size; have H5 := hid (And.intro (H4.out.1.trans (hb5.mono H4.out.1.size)) (H4.out.2.trans (hb5.mono H4.out.2.size))); clear hb5))
            go_ret2
            rw [HR.out, if_pos ⟨HSO.out, HX.out.1, HX.out.2⟩]
            exact ⟨H5.out.1.alloc H5.out.1.size _, Or.inl ⟨rfl, _, rfl, own_mono (own_below H3.out.1 (H5.out.2.alloc H5.out.2.size _)) (by have := H2.out.1.size; simp; omega)⟩⟩
          · obtain ⟨Q1, hQ1⟩ : ∃ Q1, Fr.cq a to p = Q1 := ⟨_, rfl⟩
            have hn1 : ((p : Int) != (p : Int)) = false := by simp
            have hn2 : ((Q1 : Int) != (q : Int)) = true := by
              rw [hQ1] at hcc
              simp
              omega
            have HX := hid (And.intro hcp (And.intro hQ1 hcc))
            clear hcp hcc hQ1 hcq
            go_wp2_with (first | (go_at_call 35; refine (fCheckS_any (fun _ => True) v3 to _ HVT.out (by omega)).mono ?_; rintro e w4 ⟨hb4, he, he'⟩; obtain rfl := he HSO.out; have y1 := (cell_bel hb4 ⟨w.heap.size, 1, none⟩ hlt3).trans x1'; have y2 := (cell_bel hb4 ⟨w.heap.size, 2, none⟩ hlt3).trans x2'; have hlt4 : w.heap.size < w4.heap.size := Nat.lt_of_lt_of_le hlt3 hb4.size; have H4 := hid (And.intro (HB3.out.trans (hb4.mono HB3.out.size)) hb4); clear hb4 he he') | (go_at_call 36; refine (between_any F (fun _ => True) _ v3 a to _ (HV.out.below H4.out.1) (HVT.out.below H4.out.2) (by omega) (by omega) (by omega) (by omega)).mono ?_; rintro e w5 ⟨am5, cm5, he, -, hb5⟩; rw [HX.out.1, HX.out.2.1] at he; subst he; unfold dval; have z1 := (cell_bel hb5 ⟨w.heap.size, 1, none⟩ hlt4).trans y1; have z2 := (cell_bel hb5 ⟨w.heap.size, 2, none⟩ hlt4).trans y2; have hlt5 : w.heap.size < w5.heap.size := Nat.lt_of_lt_of_le hlt4 hb5.size; have H5 := hid (And.intro (H4.out.1.trans (hb5.mono H4.out.1.size)) (H4.out.2.trans (hb5.mono H4.out.2.size))); clear hb5))
            go_ret2
            rw [HR.out, if_neg (fun h => HX.out.2.2 h.2.2)]
            exact ⟨H5.out.1.alloc H5.out.1.size _, Or.inr ⟨rfl, _, rfl, Or.inr ⟨rfl, Or.inr ⟨_, rfl⟩⟩⟩⟩
        · obtain ⟨P1, hP1⟩ : ∃ P1, Fr.cp a to = P1 := ⟨_, rfl⟩
          have hn1 : ((P1 : Int) != (p : Int)) = true := by
            rw [hP1] at hcp
            simp
            omega
          have HX := hid (And.intro hP1 hcp)
          clear hcp hP1 hcq hcl
          go_wp2_with (first | (go_at_call 35; refine (fCheckS_any (fun _ => True) v3 to _ HVT.out (by omega)).mono ?_; rintro e w4 ⟨hb4, he, he'⟩; obtain rfl := he HSO.out; have y1 := (cell_bel hb4 ⟨w.heap.size, 1, none⟩ hlt3).trans x1'; have y2 := (cell_bel hb4 ⟨w.heap.size, 2, none⟩ hlt3).trans x2'; have hlt4 : w.heap.size < w4.heap.size := Nat.lt_of_lt_of_le hlt3 hb4.size; have H4 := hid (And.intro (HB3.out.trans (hb4.mono HB3.out.size)) hb4); clear hb4 he he') | (go_at_call 36; refine (between_any F (fun _ => True) _ v3 a to _ (HV.out.below H4.out.1) (HVT.out.below H4.out.2) (by omega) (by omega) (by omega) (by omega)).mono ?_; rintro e w5 ⟨am5, cm5, he, -, hb5⟩; rw [HX.out.1] at he; subst he; unfold dval; have z1 := (cell_bel hb5 ⟨w.heap.size, 1, none⟩ hlt4).trans y1; have z2 := (cell_bel hb5 ⟨w.heap.size, 2, none⟩ hlt4).trans y2; have hlt5 : w.heap.size < w5.heap.size := Nat.lt_of_lt_of_le hlt4 hb5.size; have H5 := hid (And.intro (H4.out.1.trans (hb5.mono H4.out.1.size)) (H4.out.2.trans (hb5.mono H4.out.2.size))); clear hb5))
          go_ret2
          rw [HR.out, if_neg (fun h => HX.out.2 h.2.1)]
          exact ⟨H5.out.1.alloc H5.out.1.size _, Or.inr ⟨rfl, _, rfl, Or.inr ⟨rfl, Or.inr ⟨_, rfl⟩⟩⟩⟩
  · have c1' : ((Fr.val (a.drop (a.length - 4)) : Int) != (s : Int)) = true := by
      simp
      intro e
      exact c1 (by unfold Fr.last4; omega)
    have hr : Fr.applyIn a s p q m = ([], 6) := by unfold Fr.applyIn; rw [if_pos c1]
    have HR := hid hr
    clear hr c1
    unfold dval
    go_enter Tryz.func47, Tryz.ntmps47
    go_wp2_with (first
      | (go_at_call 83; refine (HSum.out _).mono ?_; rintro e w1 ⟨rfl, hw⟩; subst hw))
    go_quiet (fail)
    go_wp2
    go_ret2
    rw [HR.out]
    exact ⟨bel_drewN ((Below.refl _ w).alloc (Nat.le_refl _) _) _, Or.inr ⟨rfl, _, rfl, Or.inl ⟨rfl, _, _, rfl⟩⟩⟩

end Go.Proofs.YtfldcmdhneegmabGreatDoor
