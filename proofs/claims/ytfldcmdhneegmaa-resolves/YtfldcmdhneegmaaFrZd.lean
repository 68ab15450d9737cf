/-
  package frame's WALKS: Read at a delta (its result lies in a block of its own).
-/
import Derived.Test.YtfldcmdhneegmaaChC
import Derived.Defers
import Derived.Recover
namespace Go.Proofs.Ytfldcmdhneegmaa
open Go.RowKit Go.Lib

theorem one_setD {w : World} {b : Nat} {v : Value} {t : TypeId} (h : w.heap[b]? = some (.cells #[v] t (0, 0))) (u : Value) : (w.setCell ⟨b, 0, none⟩ u).heap[b]? = some (.cells #[u] t (0, 0)) := by
  have hlt := lt_of_block h
  have h' : w.heap[b] = .cells #[v] t (0, 0) := by simpa [Array.getElem?_eq_getElem hlt] using h
  show (w.heap.modify b _)[b]? = _
  rw [Array.getElem?_eq_getElem (by simpa using hlt), Array.getElem_modify_self, h']
  rfl
theorem one_cellD {w : World} {b : Nat} {v : Value} {t : TypeId} (h : w.heap[b]? = some (.cells #[v] t (0, 0))) : w.cell? ⟨b, 0, none⟩ = some v ∧ w.frozen? ⟨b, 0, none⟩ = false := by simp [World.cell?, World.frozen?, h]

set_option maxHeartbeats 1000000 in
theorem readD1_idle (p : Addr) (w : World) :
    CallsD Try.prog 36 #[.pointer (some p)] .returning w fun e u' w' => e = .returned (.tuple #[]) ∧ u' = .returning ∧ w' = w := by
  refine callsD_of_wpS Try.func36 rfl fun c₀ cs hu => ?_
  apply wpS_seq
  apply wpS_region
  simp [wpOpsS, go_sem, recoverD, hu, Try.ntmps36, Exit.thenS]
  refine wpS_of_wp ?_
  go_wp2
  cases c₀
  simp_all [bodyPostS, results, Try.results36]

theorem Try.assertBytesD (v : Value) (w : World) : (Instr.typeAssert (.iface 79 v) 20 79 true).run Try.prog w = .ok (.tuple #[v, .bool true]) w := by kernel_rfl

set_option maxHeartbeats 1000000 in
set_option maxRecDepth 100000 in
theorem readD1_caught (pb : Nat) (n : Int) (s : ByteArray) (older : List PanicEntry) (w : World) (u0 : Value) (hc : w.cell? ⟨pb, 0, none⟩ = some u0) (hz : w.frozen? ⟨pb, 0, none⟩ = false) :
    CallsD Try.prog 36 #[.pointer (some ⟨pb, 0, none⟩)] (.panicking ({ v := .iface 79 (.agg #[.int .i64 n, .string s]), recovered := false } :: older)) w fun e u' w' =>
      e = .returned (.tuple #[]) ∧ u' = .panicking ({ v := .iface 79 (.agg #[.int .i64 n, .string s]), recovered := true } :: older) ∧ ∃ o, w' = (w.setCell ⟨pb, 0, none⟩ (.iface 79 (.agg #[.int .i64 n, .string s]))).alloc o := by
  have hta := Try.assertBytesD (.agg #[.int .i64 n, .string s])
  have hlt : pb < w.heap.size := World.block_lt_of_cell? w ⟨pb, 0, none⟩ hc
  have hca : ∀ o, (w.alloc o).cell? ⟨pb, 0, none⟩ = some u0 := fun o => (World.cell?_alloc_lt w o ⟨pb, 0, none⟩ hlt).trans hc
  have hfa : ∀ o, (w.alloc o).frozen? ⟨pb, 0, none⟩ = false := fun o => (World.frozen?_alloc_old w o ⟨pb, 0, none⟩ (Nat.ne_of_lt hlt)).trans hz
  refine callsD_of_wpS Try.func36 rfl fun c₀ cs hu => ?_
  apply wpS_seq
  apply wpS_region
  simp [wpOpsS, go_sem, recoverD, hu, Try.ntmps36, Exit.thenS]
  refine wpS_of_wp ?_
  go_wp2
  simp [bodyPostS, results, Try.results36]
  exact ⟨_, rfl⟩

/-- What Read answers where the bytes are none: no delta, an error about the bytes. -/
def ReadNoD (w : World) (e : Ending) (w' : World) : Prop :=
  ∃ (n : Int) (s : ByteArray), e = .returned (.tuple #[dval 0 0 0 (.slice none 0 0), .iface 79 (.agg #[.int .i64 n, .string s])]) ∧ Below w.heap.size w w'

set_option maxHeartbeats 2000000 in
set_option maxRecDepth 1000000 in
/-- The door, met by a panic about the bytes. -/
theorem read_doorD {w w1 : World} {tmps : Array Value} {n : Int} {s : ByteArray} (h6 : tmps[6]?.getD undef = .pointer (some ⟨w.heap.size, 0, none⟩)) (h7 : tmps[7]?.getD undef = .pointer (some ⟨w.heap.size + 1, 0, none⟩)) (HB : Below (w.heap.size + 2) ((w.alloc (.cells #[.int .u32 0, .int .u64 0, .int .u64 0, .slice none 0 0] 49)).alloc (.cells #[.nilIface] 44)) w1) :
    bodyPostD Try.prog Try.f25 (ReadNoD w) (Exit.panic [{ v := .iface 79 (.agg #[.int .i64 n, .string s]), recovered := false }])
      { tmps := tmps, defers := [{ target := Target.fn (Fn.func 36) #[.pointer (some ⟨w.heap.size + 1, 0, none⟩)], args := #[] }] } w1 := by
  have hk1 : w1.heap[w.heap.size + 1]? = some (.cells #[.nilIface] 44 (0, 0)) := (HB.block (w.heap.size + 1) (by omega)).trans (new_at (by simp))
  have hk0 : w1.heap[w.heap.size]? = some (.cells #[.int .u32 0, .int .u64 0, .int .u64 0, .slice none 0 0] 49 (0, 0)) := (HB.block w.heap.size (by omega)).trans ((Below.heap_alloc _ _ _ (by simp)).trans (heap_alloc_new w _))
  obtain ⟨hc1, hz1⟩ := one_cellD hk1
  have hlt1 : w.heap.size + 1 < w1.heap.size := lt_of_block hk1
  refine leaves_cons (f := 36) (args := #[.pointer (some ⟨w.heap.size + 1, 0, none⟩)]) (by simp) (by simp [go_sem]) ?_
  refine (readD1_caught (w.heap.size + 1) n s [] _ .nilIface hc1 hz1).mono ?_
  rintro e u' w'' ⟨rfl, rfl, o, hw⟩
  have hlt2 : w.heap.size + 1 < (w1.setCell ⟨w.heap.size + 1, 0, none⟩ (.iface 79 (.agg #[.int .i64 n, .string s]))).heap.size := by show _ < (w1.heap.modify _ _).size; rw [Array.size_modify]; exact hlt1
  have hc2 : w''.cell? ⟨w.heap.size + 1, 0, none⟩ = some (.iface 79 (.agg #[.int .i64 n, .string s])) := by
    rw [hw, World.cell?_alloc_lt _ o ⟨w.heap.size + 1, 0, none⟩ hlt2]
    exact World.cell?_setCell_same _ _ _ hc1
  have hk2 : w''.heap[w.heap.size]? = some (.cells #[.int .u32 0, .int .u64 0, .int .u64 0, .slice none 0 0] 49 (0, 0)) := by
    rw [hw, Below.heap_alloc _ _ _ (by omega)]
    exact ((but_set w1 (w.heap.size + 1) 0 _).block w.heap.size (by omega) (by intro e; injection e with e; omega)).trans hk0
  obtain ⟨g0, g1, g2, g3, -⟩ := blk_four hk2
  have hb2 : Below w.heap.size w w'' := by
    rw [hw]
    exact ((((((Below.refl _ w).alloc (Nat.le_refl _) _).alloc (by simp) _).trans (HB.mono (by omega))).setCell (by show w.heap.size ≤ w.heap.size + 1; omega) _)).alloc (by omega) _
  simp [Leaves, settle, results, Try.results25, go_sem, h6, h7, hc2, g0, g1, g2, g3]
  exact ⟨n, s, rfl, hb2⟩

set_option maxHeartbeats 2000000 in
set_option maxRecDepth 1000000 in
theorem readD_unsound (F : Nat → Prop) (v : Value) (l : List UInt8) (kind : UInt8) (rd : Value) (w : World) (hv : BytesAt F w v l) (hl : l.length ≤ 1000000) (hs : Fr.sound l kind = none) :
    Calls Try.prog 25 #[.int .u8 kind.toNat, v, rd] w (ReadNoD w) := by
  have hmf : ∀ (fn : Fn) (first cap : Array Value) (w : World), (Instr.makeFunc fn first cap).run Try.prog w = .ok (.func fn first cap) w := fun _ _ _ _ => rfl
  have HO := hid (fOpen_any F v l kind ((w.alloc (.cells #[.int .u32 0, .int .u64 0, .int .u64 0, .slice none 0 0] 49)).alloc (.cells #[.nilIface] 44)) (hv.below (((Below.refl _ _).alloc (Nat.le_refl _) _).alloc (by simp) _)) hl)
  have HS := hid hs
  clear hv hs
  go_enter_defers Try.func25, Try.ntmps25
  go_wp2_with (go_at_call 34; refine HO.out.mono ?_; rintro e w1 ⟨hb, he⟩; rw [HS.out] at he; obtain ⟨n1, s1, rfl⟩ := he; have HB := hid hb; clear hb)
  exact read_doorD (n := n1) (s := s1) rfl rfl (by simpa using HB.out)

set_option maxHeartbeats 2000000 in
set_option maxRecDepth 1000000 in
theorem readD_panics (F : Nat → Prop) (v : Value) (l c : List UInt8) (kind : UInt8) (w : World) (hv : BytesAt F w v l) (hl : l.length ≤ 1000000) (hs : Fr.sound l kind = some c)
    (hr : ∀ (W : World) (v' : Value), Below (w.heap.size + 2) ((w.alloc (.cells #[.int .u32 0, .int .u64 0, .int .u64 0, .slice none 0 0] 49)).alloc (.cells #[.nilIface] 44)) W → RdAt W (w.heap.size + 2) v' 1 → BytesAt F W v' (l.take (l.length - 4)) →
      Calls Try.prog 26 #[.pointer (some ⟨w.heap.size + 2, 0, none⟩)] W fun e w' => BytesPanic e ∧ Below (w.heap.size + 2) W w') :
    Calls Try.prog 25 #[.int .u8 kind.toNat, v, .func (.func 26) #[] #[]] w (ReadNoD w) := by
  have hmf : ∀ (fn : Fn) (first cap : Array Value) (w : World), (Instr.makeFunc fn first cap).run Try.prog w = .ok (.func fn first cap) w := fun _ _ _ _ => rfl
  have HO := hid (fOpen_any F v l kind ((w.alloc (.cells #[.int .u32 0, .int .u64 0, .int .u64 0, .slice none 0 0] 49)).alloc (.cells #[.nilIface] 44)) (hv.below (((Below.refl _ _).alloc (Nat.le_refl _) _).alloc (by simp) _)) hl)
  have hsz : ((w.alloc (.cells #[.int .u32 0, .int .u64 0, .int .u64 0, .slice none 0 0] 49)).alloc (.cells #[.nilIface] 44)).heap.size = w.heap.size + 2 := by simp
  have HSZ := hid hsz
  have HS := hid hs
  have HR := hid hr
  clear hv hs hr hsz
  go_enter_defers Try.func25, Try.ntmps25
  go_wp2_with (first
    | (go_at_call 34; refine HO.out.mono ?_; rintro e w1 ⟨hb, he⟩; rw [HS.out] at he; obtain ⟨v1, rfl, h1, h2⟩ := he; rw [HSZ.out] at hb h1; have HB := hid (And.intro hb (And.intro h1 h2)); clear hb h1 h2)
    | (go_at_call 26; refine (HR.out _ v1 HB.out.1 HB.out.2.1 HB.out.2.2).mono ?_; rintro e w2 ⟨⟨n2, s2, rfl⟩, hb2⟩; have HB2 := hid hb2; clear hb2))
  exact read_doorD (n := n2) (s := s2) rfl rfl (HB.out.1.trans HB2.out)

set_option maxHeartbeats 4000000 in
set_option maxRecDepth 1000000 in
theorem readD_ok (F : Nat → Prop) (v : Value) (l c : List UInt8) (kind : UInt8) (w : World) (hv : BytesAt F w v l) (hl : l.length ≤ 1000000) (hs : Fr.sound l kind = some c) (s p q : Nat) (P : Value → World → Prop)
    (hr : ∀ (W : World) (v' : Value), Below (w.heap.size + 2) ((w.alloc (.cells #[.int .u32 0, .int .u64 0, .int .u64 0, .slice none 0 0] 49)).alloc (.cells #[.nilIface] 44)) W → RdAt W (w.heap.size + 2) v' 1 → BytesAt F W v' (l.take (l.length - 4)) →
      Calls Try.prog 26 #[.pointer (some ⟨w.heap.size + 2, 0, none⟩)] W fun e w' => ∃ am n cm, e = .returned (dval s p q (.slice (some am) n cm)) ∧ RdAt w' (w.heap.size + 2) v' (l.length - 4) ∧ Below (w.heap.size + 2) W w' ∧ P (.slice (some am) n cm) w') :
    Calls Try.prog 25 #[.int .u8 kind.toNat, v, .func (.func 26) #[] #[]] w fun e w' => ∃ am n cm w2, e = .returned (.tuple #[dval s p q (.slice (some am) n cm), .nilIface]) ∧ P (.slice (some am) n cm) w2 ∧ Below w.heap.size w w2 ∧ Below w.heap.size w w' := by
  have hmf : ∀ (fn : Fn) (first cap : Array Value) (w : World), (Instr.makeFunc fn first cap).run Try.prog w = .ok (.func fn first cap) w := fun _ _ _ _ => rfl
  have h5 : 5 ≤ l.length := by
    unfold Fr.sound at hs
    split at hs
    · rename_i h; exact h.1
    · cases hs
  have HO := hid (fOpen_any F v l kind ((w.alloc (.cells #[.int .u32 0, .int .u64 0, .int .u64 0, .slice none 0 0] 49)).alloc (.cells #[.nilIface] 44)) (hv.below (((Below.refl _ _).alloc (Nat.le_refl _) _).alloc (by simp) _)) hl)
  have hsz : ((w.alloc (.cells #[.int .u32 0, .int .u64 0, .int .u64 0, .slice none 0 0] 49)).alloc (.cells #[.nilIface] 44)).heap.size = w.heap.size + 2 := by simp
  have HSZ := hid hsz
  have HS := hid hs
  have HR := hid hr
  clear hv hs hr hsz
  unfold dval at *
  go_enter_defers Try.func25, Try.ntmps25
  go_wp2_with (first
    | (go_at_call 34; refine HO.out.mono ?_; rintro e w1 ⟨hb, he⟩; rw [HS.out] at he; obtain ⟨v1, rfl, h1, h2⟩ := he; rw [HSZ.out] at hb h1; obtain ⟨a1, p1, rfl, -, -⟩ := RowAt.slice h2; have HB := hid (And.intro hb (And.intro h1 h2)); clear hb h1 h2)
    | (go_at_call 26; refine (HR.out _ _ HB.out.1 HB.out.2.1 HB.out.2.2).mono ?_; rintro e w2 ⟨am, n, cm, rfl, hr2, hb2, hp2⟩; have HB2 := hid (And.intro hb2 (And.intro hp2 hr2)); clear hb2 hp2 hr2))
  have hlt2 : w.heap.size + 2 < w2.heap.size := lt_of_block HB2.out.2.2
  have hb3 : Below (w.heap.size + 2) ((w.alloc (.cells #[.int .u32 0, .int .u64 0, .int .u64 0, .slice none 0 0] 49)).alloc (.cells #[.nilIface] 44)) w2 := HB.out.1.trans HB2.out.1
  have k0 : (w2.alloc (.cells #[.int .u32 s, .int .u64 p, .int .u64 q, .slice (some am) n cm] 49)).heap[w.heap.size]? = some (.cells #[.int .u32 0, .int .u64 0, .int .u64 0, .slice none 0 0] 49 (0, 0)) := (Below.heap_alloc _ _ _ (by omega)).trans ((hb3.block _ (by omega)).trans ((Below.heap_alloc _ _ _ (by simp)).trans (heap_alloc_new w _)))
  have k1 : (w2.alloc (.cells #[.int .u32 s, .int .u64 p, .int .u64 q, .slice (some am) n cm] 49)).heap[w.heap.size + 1]? = some (.cells #[.nilIface] 44 (0, 0)) := (Below.heap_alloc _ _ _ (by omega)).trans ((hb3.block _ (by omega)).trans (new_at (by simp)))
  have k2 : RdAt (w2.alloc (.cells #[.int .u32 s, .int .u64 p, .int .u64 q, .slice (some am) n cm] 49)) (w.heap.size + 2) (.slice a1 (l.take (l.length - 4)).length p1) (l.length - 4) := (Below.heap_alloc _ _ _ hlt2).trans HB2.out.2.2
  have k3 : (w2.alloc (.cells #[.int .u32 s, .int .u64 p, .int .u64 q, .slice (some am) n cm] 49)).heap[w2.heap.size]? = some (.cells #[.int .u32 s, .int .u64 p, .int .u64 q, .slice (some am) n cm] 49 (0, 0)) := heap_alloc_new w2 _
  have hb4 : Below w.heap.size w (w2.alloc (.cells #[.int .u32 s, .int .u64 p, .int .u64 q, .slice (some am) n cm] 49)) := ((((Below.refl _ w).alloc (Nat.le_refl _) _).alloc (by simp) _).trans (hb3.mono (by omega))).alloc (by omega) _
  have hb5 : Below w.heap.size w w2 := (((Below.refl _ w).alloc (Nat.le_refl _) _).alloc (by simp) _).trans (hb3.mono (by omega))
  have hne : w2.heap.size ≠ w.heap.size := by omega
  have hlen : (l.take (l.length - 4)).length = l.length - 4 := by rw [List.length_take]; omega
  rw [hlen] at k2
  generalize w2.alloc (.cells #[.int .u32 s, .int .u64 p, .int .u64 q, .slice (some am) n cm] 49) = W3 at *
  obtain ⟨x0, x1, x2, x3, xz⟩ := blk_four k0
  obtain ⟨y0, yz⟩ := one_cellD k1
  have z0 := k2.c0
  have z1 := k2.c1
  have z0' : W3.cell? ⟨w.heap.size + 1 + 1, 0, none⟩ = some (.slice a1 (l.length - 4) p1) := z0
  have z1' : W3.cell? ⟨w.heap.size + 1 + 1, 1, none⟩ = some (.int .i64 ((l.length - 4 : Nat) : Int)) := z1
  obtain ⟨u0, u1, u2, u3, -⟩ := blk_four k3
  have HK := hid (And.intro k0 (And.intro k1 (And.intro hb4 hb5)))
  clear k0 k1 k2 k3 hb3 hb4 hb5
  go_quiet ((go_at_call 35; exact Calls.quiet_of_same (fNeed_true _ _ _)))
  go_wp2
  have hp4 := put_four (show (W3.drewN nq).heap[w.heap.size]? = _ from HK.out.1) (.int .u32 s) (.int .u64 p) (.int .u64 q) (.slice (some am) n cm)
  have hq4 := ((but_set _ (w.heap.size + 1) 0 Value.nilIface).block w.heap.size (lt_of_block hp4) (by intro e; injection e with e; omega)).trans hp4
  have he4 := ((((but_set (W3.drewN nq) w.heap.size 0 (.int .u32 s)).trans (but_set _ w.heap.size 1 (.int .u64 p))).trans (but_set _ w.heap.size 2 (.int .u64 q))).trans (but_set _ w.heap.size 3 (.slice (some am) n cm))).block (w.heap.size + 1) (lt_of_block (show (W3.drewN nq).heap[w.heap.size + 1]? = _ from HK.out.2.1)) (by intro e; injection e with e; omega)
  have he5 := one_setD (he4.trans (show (W3.drewN nq).heap[w.heap.size + 1]? = _ from HK.out.2.1)) Value.nilIface
  have hbf : Below w.heap.size w ((((((W3.drewN nq).setCell ⟨w.heap.size, 0, none⟩ (.int .u32 s)).setCell ⟨w.heap.size, 1, none⟩ (.int .u64 p)).setCell ⟨w.heap.size, 2, none⟩ (.int .u64 q)).setCell ⟨w.heap.size, 3, none⟩ (.slice (some am) n cm)).setCell ⟨w.heap.size + 1, 0, none⟩ Value.nilIface) := (bel_four (bel_drewN HK.out.2.2.1 nq) (Nat.le_refl _) _ _ _ _).setCell (by show w.heap.size ≤ w.heap.size + 1; omega) _
  refine leaves_cons (f := 36) (args := #[.pointer (some ⟨w.heap.size + 1, 0, none⟩)]) (by simp) (by simp [go_sem]) ?_
  refine (readD1_idle ⟨w.heap.size + 1, 0, none⟩ _).mono ?_
  rintro e u' w'' ⟨rfl, rfl, rfl⟩
  obtain ⟨g0, g1, g2, g3, -⟩ := blk_four hq4
  obtain ⟨g4, -⟩ := one_cellD he5
  simp [Leaves, settle, results, Try.results25, go_sem, g0, g1, g2, g3, g4]
  exact ⟨am, n, cm, ⟨rfl, rfl, rfl⟩, w2, HB2.out.2.1, HK.out.2.2.2, hbf⟩

end Go.Proofs.Ytfldcmdhneegmaa
