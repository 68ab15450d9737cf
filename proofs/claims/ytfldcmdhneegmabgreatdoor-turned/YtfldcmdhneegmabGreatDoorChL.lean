import Derived.Test.YtfldcmdhneegmabGreatDoorChK
import Derived.Test.YtfldcmdhneegmabGreatDoorZ20
import Derived.Test.YtfldcmdhneegmabGreatDoorZ22

/-
  package chain's WALK of Apply; package spotter's.
-/
namespace Go.Proofs.YtfldcmdhneegmabGreatDoor
open Go.RowKit Go.Lib

theorem parts_len {d sl m : List UInt8} {p q : Nat} (h : Fr.parts d = some (sl, p, q, m)) : m.length ≤ d.length := by
  rw [(Fr.parts_back h).1]
  unfold Fr.framed
  simp
  omega
theorem applyOf_unsound {a d : List UInt8} (h : (Fr.sound a 83).isSome = false) : Fr.applyOf a d = ([], 5) := by
  unfold Fr.applyOf
  rw [if_neg (by rw [h]; exact Bool.false_ne_true)]
theorem applyOf_none {a d : List UInt8} (h : Fr.parts d = none) : Fr.applyOf a d = ([], 5) := by
  unfold Fr.applyOf
  rw [h]
  split <;> rfl
theorem apEnd_bytes {r : List UInt8 × Int} {w w' : World} {n : Int} {s : ByteArray} (h : r = ([], 5)) (hb : Below w.heap.size w w') : ApEnd r w (.returned (.tuple #[.slice none 0 0, .iface 101 (.agg #[.int .i64 n, .string s])])) w' := by
  subst h
  exact ⟨hb, Or.inr ⟨rfl, _, rfl, Or.inr ⟨rfl, Or.inl ⟨_, _, rfl⟩⟩⟩⟩
theorem ApEnd.on {r : List UInt8 × Int} {w w1 w' : World} {e : Ending} (h : ApEnd r w1 e w') (hb : Below w.heap.size w w1) : ApEnd r w e w' := by
  obtain ⟨h1, h2⟩ := h
  refine ⟨hb.trans (h1.mono hb.size), ?_⟩
  rcases h2 with ⟨h0, v, he, ho⟩ | h2
  · exact Or.inl ⟨h0, v, he, own_mono ho hb.size⟩
  · exact Or.inr h2

theorem ApEnd.two {r : List UInt8 × Int} {w w' : World} {e : Ending} (h : ApEnd r w e w') : ∃ x y, e = .returned (.tuple #[x, y]) ∧ ApEnd r w (.returned (.tuple #[x, y])) w' := by
  have h' := h
  rcases h.2 with ⟨_, v, rfl, _⟩ | ⟨_, v, rfl, _⟩
  · exact ⟨_, _, rfl, h'⟩
  · exact ⟨_, _, rfl, h'⟩

set_option maxHeartbeats 2000000 in
set_option maxRecDepth 1000000 in
theorem cApply_any (F G : Nat → Prop) (v u : Value) (a d : List UInt8) (w : World) (hv : BytesAt F w v a) (hu : BytesAt G w u d) (hG : ∀ i, G i → i < w.heap.size) (ha : a.length ≤ 500000) (hd : d.length ≤ 65536) :
    Calls Tryz.prog 21 #[v, u] w (ApEnd (Fr.applyOf a d) w) := by
  have HV := hid hv
  have HU := hid hu
  have HA := hid (fCheckS_any F v a w hv (by omega))
  clear hv hu
  cases h1 : (Fr.sound a 83).isSome with
  | false =>
    have HX := hid h1
    clear h1
    go_enter Tryz.func21, Tryz.ntmps21
    go_wp2_with (go_at_call 35; refine HA.out.mono ?_; rintro e w1 ⟨hb1, -, he⟩; obtain ⟨n1, s1, rfl⟩ := he HX.out; have HB1 := hid hb1; clear hb1 he)
    go_ret2
    exact apEnd_bytes (applyOf_unsound HX.out) HB1.out
  | true =>
    have h5 := sound_four h1
    have H1 := hid h1
    clear h1
    cases hp : Fr.parts d with
    | none =>
      have HX := hid hp
      clear hp
      go_enter Tryz.func21, Tryz.ntmps21
      go_wp2_with (first
        | (go_at_call 35; refine HA.out.mono ?_; rintro e w1 ⟨hb1, he, -⟩; obtain rfl := he H1.out; have HB1 := hid hb1; clear hb1 he)
        | (go_at_call 46; refine (opened_any G u d _ (HU.out.below HB1.out) (fun i h => Nat.lt_of_lt_of_le (hG i h) HB1.out.size) (by omega)).mono ?_; rintro e w2 ⟨hb2, he⟩; rw [HX.out] at he; obtain ⟨n2, s2, rfl⟩ := he; have HB2 := hid (HB1.out.trans (hb2.mono HB1.out.size)); clear hb2; unfold dval))
      go_ret2
      exact apEnd_bytes (applyOf_none HX.out) (HB2.out.alloc HB2.out.size _)
    | some x =>
      obtain ⟨sl, p, q, m⟩ := x
      have hm := parts_len hp
      obtain ⟨-, hsl, hp64, hq64⟩ := Fr.parts_back hp
      have hin := Fr.applyOf_in (a := a) H1.out h5 (by omega) hp
      obtain ⟨S1, hS1⟩ : ∃ S1, Fr.val sl = S1 := ⟨_, rfl⟩
      rw [hS1] at hin
      have HX := hid (And.intro hp (And.intro hin hS1))
      clear hp hin hS1
      go_enter Tryz.func21, Tryz.ntmps21
      go_wp2_with (first
        | (go_at_call 35; refine HA.out.mono ?_; rintro e w1 ⟨hb1, he, -⟩; obtain rfl := he H1.out; have HB1 := hid hb1; clear hb1 he)
        | (go_at_call 46; refine (opened_any G u d _ (HU.out.below HB1.out) (fun i h => Nat.lt_of_lt_of_le (hG i h) HB1.out.size) (by omega)).mono ?_; rintro e w2 ⟨hb2, he⟩; rw [HX.out.1] at he; obtain ⟨am, n, cm, rfl, hm2⟩ := he; rw [HX.out.2.2]; have HB2 := hid (And.intro (HB1.out.trans (hb2.mono HB1.out.size)) hm2); clear hb2 hm2; unfold dval)
        | (go_at_call 47; refine (dApply_any F G v a m S1 p q am n cm _ (HV.out.below (HB2.out.1.alloc HB2.out.1.size _)) (HB2.out.2.below ((Below.refl _ _).alloc (Nat.le_refl _) _)) h5 ha (by omega) hp64 hq64).mono ?_; rintro e w3 h3; rw [← HX.out.2.1] at h3; obtain ⟨x3, y3, rfl, h3⟩ := h3.two; have H3 := hid (h3.on (HB2.out.1.alloc HB2.out.1.size _)); clear h3))
      go_ret2
      exact H3.out

/-- What the program's call Apply answers. -/
def SApEnd (r : List UInt8 × Int) (w : World) (e : Ending) (w' : World) : Prop :=
  Below w.heap.size w w' ∧ ((r.2 = 0 ∧ ∃ v, e = .returned (.tuple #[v, .int .i64 0]) ∧ w'.ownsRow w.heap.size 5 1 v r.1.length (byteCells r.1)) ∨ (r.2 ≠ 0 ∧ r.1 = [] ∧ e = .returned (.tuple #[.slice none 0 0, .int .i64 r.2])))

theorem sap_of {l : List UInt8} {c : Int} {w w1 w2 : World} {x y : Value} (h : ApEnd (l, c) w (.returned (.tuple #[x, y])) w1) (hb : Below w1.heap.size w1 w2) : SApEnd (l, c) w (.returned (.tuple #[x, .int .i64 c])) w2 := by
  refine ⟨h.1.trans (hb.mono h.1.size), ?_⟩
  rcases h.2 with ⟨h0, v, he, ho⟩ | ⟨h0, v, he, hn⟩
  · injection he with he
    injection he with he
    simp at he
    obtain ⟨rfl, -⟩ := he
    have h0' : c = 0 := h0
    subst h0'
    exact Or.inl ⟨rfl, _, rfl, own_below ho hb⟩
  · injection he with he
    injection he with he
    simp at he
    obtain ⟨rfl, -⟩ := he
    refine Or.inr ⟨?_, h0, rfl⟩
    rcases hn with ⟨hc, _⟩ | ⟨hc, _⟩
    · rw [hc]; decide
    · rw [hc]; decide

set_option maxHeartbeats 2000000 in
set_option maxRecDepth 1000000 in
theorem sApply_any (F G : Nat → Prop) (v u : Value) (a d : List UInt8) (w : World) (hv : BytesAt F w v a) (hu : BytesAt G w u d) (hG : ∀ i, G i → i < w.heap.size) (ha : a.length ≤ 500000) (hd : d.length ≤ 65536) (hg : ErrType w) :
    Calls Tryz.prog 10 #[v, u] w (SApEnd (Fr.applyOf a d) w) := by
  have HC := hid (cApply_any F G v u a d w hv hu hG ha hd)
  have HG := hid hg
  have HN : Hid (∀ (w1 : World) (x y : Value), ApEnd (Fr.applyOf a d) w (.returned (.tuple #[x, y])) w1 → Calls Tryz.prog 19 #[y] w1 fun e w' => e = .returned (.int .i64 (Fr.applyOf a d).2) ∧ Below w1.heap.size w1 w') := fun w1 x y h => by
    have hE := HG.out.below h.1
    rcases h.2 with ⟨h0, v, he, _⟩ | ⟨_, v, he, hn⟩
    · rw [h0]
      injection he with he
      injection he with he
      simp at he
      obtain ⟨-, rfl⟩ := he
      exact (number_nil w1).mono fun e w' ⟨h1, h2⟩ => ⟨h1, by rw [h2]; exact Below.refl _ _⟩
    · injection he with he
      injection he with he
      simp at he
      obtain ⟨-, rfl⟩ := he
      rcases hn with ⟨hc, n, m, rfl⟩ | ⟨hc, ⟨n, s, rfl⟩ | ⟨s, rfl⟩⟩
      · rw [hc]; exact number_other n m w1 hE
      · rw [hc]; exact number_bytes n s w1 hE
      · rw [hc]; exact number_fault s w1 hE
  clear hv hu hg
  obtain ⟨r, hr⟩ : ∃ r, Fr.applyOf a d = r := ⟨_, rfl⟩
  rw [hr] at HC HN ⊢
  clear hr
  obtain ⟨l0, C⟩ := r
  simp only [] at HN
  go_enter Tryz.func10, Tryz.ntmps10
  go_wp2_with (first
    | (go_at_call 21; refine HC.out.mono ?_; rintro e w1 h1; obtain ⟨x1, y1, rfl, h1⟩ := h1.two; have H1 := hid h1; clear h1)
    | (go_at_call 19; refine (HN.out _ _ _ H1.out).mono ?_; rintro e w2 ⟨rfl, hb2⟩; have H2 := hid hb2; clear hb2))
  go_ret2
  exact sap_of H1.out H2.out

end Go.Proofs.YtfldcmdhneegmabGreatDoor
