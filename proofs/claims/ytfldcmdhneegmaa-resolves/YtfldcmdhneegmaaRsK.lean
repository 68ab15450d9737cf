/-
  THE LAW Resolves: its walk.
-/
import Derived.Test.YtfldcmdhneegmaaRsJ
import Derived.Test.YtfldcmdhneegmaaDlC
import Derived.Test.YtfldcmdhneegmaaChG
namespace Go.Proofs.Ytfldcmdhneegmaa
open Go.RowKit Go.Lib Go.Shelf

/-- The frames as rows of bytes, as far as they are laid. -/
def RowsAt (base : Nat) (w : World) (v : Value) (k : Nat) (fs : List (List UInt8)) : Prop :=
  ∃ cs : List Value, w.ownsRow base 24 1 v k cs ∧ ∀ j (h : j < fs.length), j < k → ∃ c, cs[j]? = some c ∧ c ≠ .slice none 0 0 ∧ BytesAt (U8 w) w c fs[j]

theorem BytesAt.onU8 {w w' : World} {c : Value} {x : List UInt8} (h : BytesAt (U8 w) w c x) (hu : ∀ i, U8 w i → w'.heap[i]? = w.heap[i]?) (hs : w.heap.size ≤ w'.heap.size) : BytesAt (U8 w') w' c x :=
  RowAt.mono (BytesAt.u8 h hu hs) (fun i _ hi => by obtain ⟨c, fz, hb⟩ := hi; exact ⟨c, fz, (hu i ⟨c, fz, hb⟩).trans hb⟩)
theorem text_u8 (w : World) (l : List UInt8) : U8 (bytesWorld w 5 ⟨l.toArray⟩) w.heap.size := ⟨_, _, bytesWorld_at_new w 5 ⟨l.toArray⟩⟩
theorem RowsAt.step {base : Nat} {w W w3 : World} {v v' : Value} {k : Nat} {fs : List (List UInt8)} {c : Value} {cs : List Value} (hk : k < fs.length) (h1 : w.ownsRow base 24 1 v k cs) (h2 : ∀ j (h : j < fs.length), j < k → ∃ c, cs[j]? = some c ∧ c ≠ .slice none 0 0 ∧ BytesAt (U8 w) w c fs[j]) (hW : Below w.heap.size w W) (hc : BytesAt (U8 W) W c fs[k]) (hn : c ≠ .slice none 0 0)
    (ho : w3.ownsRow base 24 1 v' (k + 1) (cs ++ [c])) (hg : W.grownBy w3 v.ownBlock) : RowsAt base w3 v' (k + 1) fs := by
  have hcl : cs.length = k := by have := h1.1; omega
  have hu : ∀ i, U8 W i → w3.heap[i]? = W.heap[i]? := fun i ⟨c', fz, hi⟩ => hg.block i (lt_of_block hi) (fun e => by
    obtain ⟨-, c'', fz', hb⟩ := own_block h1 i e.symm
    rw [hW.block i (lt_of_block hb), hb] at hi
    cases hi)
  refine ⟨cs ++ [c], ho, fun j hj hjk => ?_⟩
  by_cases hjk' : j < k
  · obtain ⟨c', e1, e2, e3⟩ := h2 j hj hjk'
    refine ⟨c', by rw [List.getElem?_append_left (by omega)]; exact e1, e2, ?_⟩
    exact (e3.onU8 (fun i ⟨_, _, hi⟩ => hW.block i (lt_of_block hi)) hW.size).onU8 hu hg.size
  · obtain rfl : j = k := by omega
    refine ⟨c, by rw [List.getElem?_append_right (by omega)]; simp [hcl], hn, hc.onU8 hu hg.size⟩
theorem Try.infoRowC : (Try.prog.info? 24).map (fun i => (i.zero, i.size, i.bytes)) = some (some (.slice none 0 0), 1, 24) := by kernel_rfl
theorem cell_row {w : World} {b : Nat} {c : Value} {t : TypeId} (h : w.heap[b]? = some (.cells #[c] t (0, 0))) : RowAt (fun x => x = b) w (.slice (some ⟨b, 0, none⟩) 1 1) 1 1 [c] := by
  refine ⟨rfl, Or.inr ⟨b, 0, 1, rfl, rfl, lt_of_block h, Nat.le_refl _, by unfold maxLen; omega, fun j u hj => ?_⟩⟩
  cases j with
  | zero =>
    simp at hj
    subst hj
    simp [World.cell?, h]
  | succ j => simp at hj

theorem own_text' {w : World} {base : Nat} {v : Value} {l : List UInt8} (h : w.ownsRow base 5 1 v l.length (byteCells l)) : (convert 24 9 v).run Try.prog w = .ok (.string ⟨l.toArray⟩) w := by
  have hv : BytesAt (fun _ => True) w v l := (RowAt.ofOwn h).mono (fun _ _ _ => trivial)
  by_cases hn : v = .slice none 0 0
  · subst hn
    obtain ⟨ao, cap, he⟩ := own_slice h
    injection he with h1 h2 h3
    obtain rfl : l = [] := List.eq_nil_of_length_eq_zero h2.symm
    exact run_nil_text w
  · exact hv.text hn

/-- A row of bytes that is the caller's. -/
def SpoilAt (base : Nat) (w : World) (a : Option Addr) (n : Nat) : Prop :=
  n = 0 ∨ ∃ g cur, a = some ⟨g, 0, none⟩ ∧ base ≤ g ∧ w.heap[g]? = some (.cells cur 5 (0, 0)) ∧ ∀ j, j < n → ∃ x : Nat, x < 256 ∧ cur[j]? = some (.int .u8 x)
theorem SpoilAt.ofOwn {base : Nat} {w : World} {a : Option Addr} {l : List UInt8} {n cap : Nat} (h : w.ownsRow base 5 1 (.slice a n cap) l.length (byteCells l)) : SpoilAt base w a l.length := by
  rcases h.2 with ⟨-, h0⟩ | ⟨g, cap', cur, hv, hb, hh, r⟩
  · exact Or.inl h0
  · obtain ⟨-, -, -, ht⟩ := r
    injection hv with h1 h2 h3
    refine Or.inr ⟨g, cur, h1, hb, hh, fun j hj => ?_⟩
    refine ⟨l[j].toNat, UInt8.toNat_lt l[j], ?_⟩
    have e : (cur.toList.take (l.length * 1))[j]? = (byteCells l)[j]? := by rw [ht]
    rw [List.getElem?_take_of_lt (by omega), Array.getElem?_toList] at e
    rw [e]
    simp [byteCells, hj]
theorem SpoilAt.put {base : Nat} {w : World} {g n : Nat} (h : SpoilAt base w (some ⟨g, 0, none⟩) n) (k x : Nat) (hx : x < 256) : SpoilAt base (w.setCell ⟨g, k, none⟩ (.int .u8 x)) (some ⟨g, 0, none⟩) n := by
  rcases h with h | ⟨g', cur, he, hb, hh, hc⟩
  · exact Or.inl h
  · injection he with he
    injection he with he
    subst he
    have hlt := lt_of_block hh
    have h' : w.heap[g] = .cells cur 5 (0, 0) := by simpa [Array.getElem?_eq_getElem hlt] using hh
    refine Or.inr ⟨g, cur.setIfInBounds k (.int .u8 x), rfl, hb, ?_, fun j hj => ?_⟩
    · show (w.heap.modify g _)[g]? = _
      rw [Array.getElem?_eq_getElem (by simpa using hlt), Array.getElem_modify_self, h']
      rfl
    · obtain ⟨y, hy, hcy⟩ := hc j hj
      by_cases e : k = j
      · subst e
        have hjl := (Array.getElem?_eq_some_iff.1 hcy).1
        exact ⟨x, hx, by simp [hjl]⟩
      · exact ⟨y, hy, by rw [Array.getElem?_setIfInBounds_ne e]; exact hcy⟩

/-- A row of texts, or an empty one wherever it points. -/
def StrsIn (F : Nat → Prop) (w : World) (v : Value) (fs : List (List UInt8)) : Prop := StrsAt F w v fs ∨ (fs = [] ∧ ∃ a cap, v = .slice a 0 cap)
theorem StrsIn.below {F : Nat → Prop} {w w' : World} {v : Value} {fs : List (List UInt8)} (h : StrsIn F w v fs) (hb : Below w.heap.size w w') : StrsIn F w' v fs := h.imp_left (fun h => h.below hb)
theorem StrsIn.get {F : Nat → Prop} {w : World} {ao : Option Addr} {n cap : Nat} {fs : List (List UInt8)} (h : StrsIn F w (.slice ao n cap) fs) {i : Nat} (hi : i < fs.length) : ∃ b o, ao = some ⟨b, o, none⟩ ∧ w.cell? ⟨b, o + i, none⟩ = some (.string ⟨fs[i].toArray⟩) ∧ b < w.heap.size := by
  rcases h with h | ⟨rfl, -⟩
  · exact h.get hi
  · simp at hi
theorem StrsIn.slice {F : Nat → Prop} {w : World} {v : Value} {fs : List (List UInt8)} (h : StrsIn F w v fs) : ∃ ao cap, v = .slice ao fs.length cap := by
  rcases h with h | ⟨rfl, a, cap, rfl⟩
  · obtain ⟨ao, cap, rfl, -, -⟩ := RowAt.slice h
    exact ⟨ao, cap, rfl⟩
  · exact ⟨a, cap, rfl⟩
set_option maxHeartbeats 1000000 in
theorem rResolve_none (a : Option Addr) (cap : Nat) (w : World) : Calls Try.prog 5 #[.slice a 0 cap] w fun e w' => e = .returned (.tuple #[.string ⟨#[]⟩, .int .i64 (-1)]) ∧ Below w.heap.size w w' := by
  go_enter Try.func5, Try.ntmps5
  go_wp2
  refine wp_loop_rounds 1 ?_
  rw [rounds_succ]
  go_wp2
  go_ret2
  exact ⟨rfl, Below.refl _ _⟩
theorem rResolve_in (F : Nat → Prop) (v : Value) (fs : List (List UInt8)) (w : World) (hL : ∀ f ∈ fs, f.length ≤ 65536) (hfl : fs.length ≤ 1000) (hv : StrsIn F w v fs) :
    Calls Try.prog 5 #[v] w fun e w' => e = .returned (.tuple #[.string ⟨(Fr.resolve fs).1.toArray⟩, .int .i64 (Fr.resolve fs).2]) ∧ Below w.heap.size w w' := by
  rcases hv with h | ⟨rfl, a, cap, rfl⟩
  · exact rResolve_any F v fs w hL hfl h
  · exact rResolve_none a cap w

set_option maxHeartbeats 4000000 in
set_option maxRecDepth 1000000 in
theorem resolves_any (F : Nat → Prop) (v : Value) (fs : List (List UInt8)) (w : World) (hv : StrsIn F w v fs) (hn : fs.length ≤ 9223372036854775807) :
    Calls Try.prog 3 #[v] w fun e w' => e = .returned (.bool true) ∧ Below w.heap.size w w' := by
  obtain ⟨ao, cap, rfl⟩ := hv.slice
  have HV := hid hv
  clear hv
  by_cases h16 : 16 < fs.length
  · have hd : decide ((16 : Int) < (fs.length : Int)) = true := decide_eq_true (by omega)
    go_enter Try.func3, Try.ntmps3
    go_wp2
    go_ret
    exact ⟨rfl, Below.refl _ _⟩
  · have hd : decide ((16 : Int) < (fs.length : Int)) = false := decide_eq_false (by omega)
    go_enter Try.func3, Try.ntmps3
    go_wp2
    go_loopw [3, 4] (fun l i wr => ∃ k : Nat, k ≤ fs.length ∧ i = .int .i64 k ∧ Hid (RowsAt w.heap.size wr l k fs ∧ Below w.heap.size w wr ∧ ∀ f ∈ fs.take k, f.length ≤ 65536)) (fun _ i _ => fs.length - (intOf i).toNat)
    case atStart => exact ⟨0, by omega, rfl, ⟨[], ⟨rfl, Or.inl ⟨rfl, rfl⟩⟩, fun j _ h => by omega⟩, Below.refl _ _, fun f hf => by simp at hf⟩
    case round =>
      obtain ⟨k, hk, rfl, hr⟩ := hrel
      by_cases hlt : k < fs.length
      · have hlt' : (k : Int) < fs.length := by omega
        obtain ⟨b, o, rfl, hc, hbl⟩ := (HV.out.below hr.out.2.1).get hlt
        have hsz : (⟨fs[k].toArray⟩ : ByteArray).size = fs[k].length := by simp [ByteArray.size]
        by_cases hbig : 65536 < fs[k].length
        · have hd2 : decide ((65536 : Int) < (fs[k].length : Int)) = true := decide_eq_true (by omega)
          go_wp2
          go_ret
          exact ⟨rfl, hr.out.2.1⟩
        · have hd2 : decide ((65536 : Int) < (fs[k].length : Int)) = false := decide_eq_false (by omega)
          obtain ⟨W1, hW1⟩ : ∃ W, bytesWorld wr 5 ⟨fs[k].toArray⟩ = W := ⟨_, rfl⟩
          have hc1 := Lib.run_convert_string_bytes (P := Try.prog) wr 9 24 5 ⟨fs[k].toArray⟩ Try.underlying9 Try.underlying24 Try.underlying5
          rw [hW1, hsz] at hc1
          obtain ⟨W2, hW2⟩ : ∃ W, W1.alloc (.cells #[.slice (some ⟨wr.heap.size, 0, none⟩) fs[k].length (grownCap wr fs[k].length 0 5)] 24) = W := ⟨_, rfl⟩
          have hb1 : Below wr.heap.size wr W1 := by rw [← hW1]; exact bytesWorld_below _ _ _
          have hb2 : Below wr.heap.size wr W2 := by rw [← hW2]; exact hb1.alloc hb1.size _
          have hn2 : W2.heap[W1.heap.size]? = some (.cells #[.slice (some ⟨wr.heap.size, 0, none⟩) fs[k].length (grownCap wr fs[k].length 0 5)] 24 (0, 0)) := by rw [← hW2]; exact heap_alloc_new _ _
          have hx1 : BytesAt (U8 W1) W1 (.slice (some ⟨wr.heap.size, 0, none⟩) fs[k].length (grownCap wr fs[k].length 0 5)) fs[k] := by
            rw [← hW1]
            exact (bytes_of_text wr fs[k] (by omega)).mono (fun i _ hi => by rw [hi]; exact text_u8 _ _)
          have hx2 : BytesAt (U8 W2) W2 (.slice (some ⟨wr.heap.size, 0, none⟩) fs[k].length (grownCap wr fs[k].length 0 5)) fs[k] := by
            rw [← hW2]
            exact hx1.onU8 (fun i ⟨_, _, hi⟩ => Below.heap_alloc _ _ _ (lt_of_block hi)) (by simp)
          obtain ⟨i0, hi, hz0, hz1, hz2⟩ := info_parts Try.infoRowC
          obtain ⟨ck, ho, hrows⟩ := hr.out.1
          obtain ⟨al, cl, rfl⟩ := own_slice ho
          have HB := hid (And.intro hb2 (And.intro hx2 (And.intro hn2 ho)))
          have HR := hid (And.intro hr.out.2.1 (And.intro hr.out.2.2 hrows))
          clear hr hb1 hb2 hn2 hx1 hx2 ho hrows
          go_wp2_with (at_builtin; refine wpList_append_row rfl _ _ 23 rfl w.heap.size 24 i0 (.slice none 0 0) 1 24 Try.underlying23 hi hz0 hz1 hz2 rfl (by decide) _ k ck rfl (own_below HB.out.2.2.2 HB.out.1) _ _ 1 _ rfl (cell_row HB.out.2.2.1) (by intro u hu; simp at hu; subst hu; rfl) (by unfold maxLen; omega) (by omega) (by have := HB.out.1.size; have := HR.out.1.size; omega) ?_)
          intro v3 w3 ho3 hg3
          obtain ⟨a3, c3, rfl⟩ := own_slice ho3
          have H3 := hid (And.intro ho3 hg3)
          clear ho3 hg3
          go_wp2
          refine ⟨⟨k + 1, by omega, by go_num, ?_, ?_, ?_⟩, by simp [intOf]; omega⟩
          · exact RowsAt.step hlt HB.out.2.2.2 HR.out.2.2 HB.out.1 HB.out.2.1 (by intro e; cases e) H3.out.1 H3.out.2
          · exact (HR.out.1.trans (HB.out.1.mono HR.out.1.size)).grown H3.out.2 (by have := HB.out.1.size; have := HR.out.1.size; omega) (fun j hj => (own_block HB.out.2.2.2 j hj).1)
          · intro f hf
            rw [List.take_add_one] at hf
            rcases List.mem_append.1 hf with h | h
            · exact HR.out.2.1 f h
            · simp [hlt] at h
              rw [h]
              omega
      · obtain rfl : k = fs.length := by omega
        have hL : ∀ f ∈ fs, f.length ≤ 65536 := by
          have := hr.out.2.2
          rw [List.take_length] at this
          exact this
        obtain ⟨cs, ho, hrows⟩ := hr.out.1
        obtain ⟨al, cl, rfl⟩ := own_slice ho
        have HS := hid (sResolve_any _ _ cs fs wr ⟨RowAt.ofOwn ho, fun j hj => hrows j hj hj⟩ hL (by omega))
        have HRs := hid (fun W hW => rResolve_in F _ fs W hL (by omega) (HV.out.below hW))
        have HRow := hid (And.intro ho hrows)
        have HBr := hid hr.out.2.1
        clear ho hrows hr
        obtain ⟨r, hr⟩ : ∃ r, Fr.resolve fs = r := ⟨_, rfl⟩
        rw [hr] at HS HRs
        clear hr
        obtain ⟨D, N⟩ := r
        simp only [] at HS HRs
        go_wp2_with (first
          | (go_at_call 4; refine HS.out.mono ?_; rintro e w1 ⟨v1, rfl, ho1, hb1⟩; obtain ⟨a1, c1, rfl⟩ := own_slice ho1; have H1 := hid (And.intro ho1 hb1); clear ho1 hb1)
          | (go_at_call 5; refine (HRs.out _ (HBr.out.trans (H1.out.2.mono HBr.out.size))).mono ?_; rintro e w2 ⟨rfl, hb2⟩; have hct := own_text' (own_below H1.out.1 hb2); have H2 := hid (And.intro (own_below H1.out.1 hb2) (H1.out.2.trans (hb2.mono H1.out.2.size))); clear hb2))
        have hDm : D.length ≤ maxLen := by
          rcases H2.out.1.2 with ⟨-, h0⟩ | ⟨g, cap', cur, hv, hb, hh, h1, h2, -⟩
          · omega
          · omega
        unfold maxLen at hDm
        obtain ⟨wa, hwa⟩ : ∃ W, W = wr := ⟨_, rfl⟩
        subst hwa
        go_loopw [9] (fun i wr => ∃ k : Nat, k ≤ D.length ∧ i = .int .i64 k ∧ Hid (SpoilAt wa.heap.size wr a1 D.length ∧ Below wa.heap.size wa wr)) (fun i _ => D.length - (intOf i).toNat)
        case atStart => exact ⟨0, by omega, rfl, SpoilAt.ofOwn H2.out.1, H2.out.2⟩
        case round =>
          obtain ⟨k, hk, rfl, hr⟩ := hrel
          by_cases hlt : k < D.length
          · have hlt' : (k : Int) < D.length := by omega
            rcases hr.out.1 with h0 | ⟨g, cur, rfl, hbg, hh, hcur⟩
            · omega
            · obtain ⟨x, hx, hcx⟩ := hcur k hlt
              have hck : wr.cell? ⟨g, k, none⟩ = some (.int .u8 x) := by simp [World.cell?, hh, hcx]
              have hfz : wr.frozen? ⟨g, k, none⟩ = false := by simp [World.frozen?, hh]
              have HH := hid (And.intro hbg hh)
              clear hbg hh hcur hcx
              go_wp2
              have ew : (k : Int) + 1 = ((k + 1 : Nat) : Int) := by omega
              have ex : ((x : Int) + 1) % 256 = (((x + 1) % 256 : Nat) : Int) := by omega
              rw [ew, ex]
              refine ⟨⟨k + 1, by omega, rfl, hr.out.1.put k ((x + 1) % 256) (by omega), hr.out.2.setCell HH.out.1 _⟩, by simp [intOf]; omega⟩
          · obtain rfl : k = D.length := by omega
            have HB2 := hid hr.out.2
            clear hr
            go_wp2
            obtain ⟨wb, hwb⟩ : ∃ W, W = wr := ⟨_, rfl⟩
            subst hwb
            go_loopw [10] (fun i wr => ∃ k : Nat, k ≤ fs.length ∧ i = .int .i64 k ∧ Hid (Below wa.heap.size wa wr)) (fun i _ => fs.length - (intOf i).toNat)
            case atStart => exact ⟨0, by omega, rfl, HB2.out⟩
            case round =>
              obtain ⟨k, hk, rfl, hr⟩ := hrel
              by_cases hlt : k < fs.length
              · have hlt' : (k : Int) < fs.length := by omega
                have hbw : Below w.heap.size w wr := HBr.out.trans (hr.out.mono HBr.out.size)
                obtain ⟨b, o, rfl, hc, hbl⟩ := (HV.out.below hbw).get hlt
                have hfr : FrsAt (fun _ => True) wa (.slice al fs.length cl) cs fs := ⟨(RowAt.ofOwn HRow.out.1).mono (fun _ _ _ => trivial), fun j hj => HRow.out.2 j hj hj⟩
                obtain ⟨b', o', a', n', q', rfl, hc', hf', hbl'⟩ := (hfr.below hr.out).get hlt
                have htx := BytesAt.text hf' (by intro e; cases e)
                have htd := BytesAt.text (hf'.below (Below.drew (Below.refl _ _))) (by intro e; cases e)
                have htn := fun n => BytesAt.text (hf'.below (bel_drewN (Below.refl _ _) n)) (by intro e; cases e)
                have htm := fun n => BytesAt.text (hf'.below (Below.drew (bel_drewN (Below.refl _ _) n))) (by intro e; cases e)
                clear hbw hfr hf'
                go_wp2
                go_region_held3 (fun W => W.cell? ⟨b', o' + k, none⟩ = some (.slice (some a') n' q') ∧ W.cell? ⟨b, o + k, none⟩ = some (.string ⟨fs[k].toArray⟩) ∧ (convert 24 9 (.slice (some a') n' q')).run Try.prog W = .ok (.string ⟨fs[k].toArray⟩) W) (go_keep) (fail)
                go_wp2
                refine ⟨⟨k + 1, by omega, by go_num, ?_⟩, by simp [intOf]; omega⟩
                exact Below.drew hr.out
              · obtain rfl : k = fs.length := by omega
                go_wp2
                go_ret
                exact ⟨rfl, HBr.out.trans (hr.out.mono HBr.out.size)⟩

end Go.Proofs.Ytfldcmdhneegmaa
