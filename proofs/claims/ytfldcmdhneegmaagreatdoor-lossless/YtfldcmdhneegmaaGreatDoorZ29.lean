import Derived.Test.YtfldcmdhneegmaaGreatDoorZ24
import Derived.Test.YtfldcmdhneegmaaGreatDoorZ27
import Derived.Test.YtfldcmdhneegmaaGreatDoorZ28

/-
  package spotter's New.
-/
namespace Go.Proofs.YtfldcmdhneegmaaGreatDoor
open Go.RowKit Go.Lib

/-- What New alone leans on. -/
structure EnvG (w : World) : Prop where
  letters : Letters w
  err : ErrType w
theorem EnvG.below {w w' : World} (h : EnvG w) (hb : Below w.heap.size w w') : EnvG w' where
  letters := fun c W h1 h2 h3 => h.letters c W h1 h2 (hb.trans (h3.mono hb.size))
  err := h.err.below hb
/-- An engine that is new: the program's. -/
structure SNewAt (w w' : World) (sb eb : Nat) (v : Value) (l : List (Int × Bool)) (win : Int) : Prop where
  blk : w'.heap[sb]? = some (.cells #[.pointer (some ⟨eb, 0, none⟩)] 74 (0, 0))
  eng : w'.heap[eb]? = some (.cells #[v, .int .i64 win, .int .i64 (-9223372036854775808), .int .i64 0, .slice none 0 0, .slice none 0 0] 159 (0, 0))
  own : w'.ownsRow w.heap.size 225 2 v l.length (stepCells l)
  lsb : w.heap.size ≤ sb
  leb : w.heap.size ≤ eb
  ne : sb ≠ eb
  bel : Below w.heap.size w w'
def SNewEnd (s : ByteArray) (w : World) (e : Ending) (w' : World) : Prop :=
  if 60 < s.size then e = .returned (.tuple #[.pointer none, .int .i64 1]) ∧ Below w.heap.size w w' else match Pl.parse s with
    | none => e = .returned (.tuple #[.pointer none, .int .i64 2]) ∧ Below w.heap.size w w'
    | some (l, win) => ∃ sb eb v, e = .returned (.tuple #[.pointer (some ⟨sb, 0, none⟩), .int .i64 0]) ∧ SNewAt w w' sb eb v l win

theorem engineOf_long (s : ByteArray) (w : World) (h60 : 60 < s.size) (hm : s.size ≤ 9223372036854775807) :
    Calls Tryz.prog 41 #[.string s] w fun e w' => e = .returned (.tuple #[.pointer none, .iface 133 (.agg #[.int .i64 (s.size : Int)])]) ∧ Below w.heap.size w w' := by
  have HP := hid (pParse_long s w h60 hm)
  clear h60
  go_enter Tryz.func41, Tryz.ntmps41
  go_wp2_with (go_at_call 83; refine HP.out.mono ?_)
  rintro e w1 ⟨rfl, b1⟩
  have HB := hid b1
  clear b1
  go_wp2
  go_ret2
  exact ⟨rfl, by repeat (first | exact HB.out | refine Below.drew ?_ | refine Below.alloc ?_ (by have := HB.out.size; simp; try omega) _)⟩
theorem engineOf_bad (s : ByteArray) (w : World) (h60 : s.size ≤ 60) (hL : Letters w) (hp : Pl.parse s = none) :
    Calls Tryz.prog 41 #[.string s] w fun e w' => (∃ k : Int, e = .returned (.tuple #[.pointer none, .iface 238 (.agg #[.int .i64 k])])) ∧ Below w.heap.size w w' := by
  have HP := hid (pParse_any s w h60 hL)
  unfold ParseEnd at HP
  rw [hp] at HP
  have HP' : Hid (Calls Tryz.prog 83 #[.string s] w fun e w' => (∃ k : Int, e = .returned (.tuple #[.agg #[.slice none 0 0, .int .i64 0], .iface 238 (.agg #[.int .i64 k])])) ∧ Below w.heap.size w w') := HP
  clear h60 HP hL hp
  go_enter Tryz.func41, Tryz.ntmps41
  go_wp2_with (go_at_call 83; refine HP'.out.mono ?_)
  rintro e w1 ⟨⟨k, rfl⟩, b1⟩
  have HB := hid b1
  clear b1
  go_wp2
  go_ret2
  exact ⟨⟨k, rfl⟩, by repeat (first | exact HB.out | refine Below.drew ?_ | refine Below.alloc ?_ (by have := HB.out.size; simp; try omega) _)⟩
set_option maxHeartbeats 4000000 in
theorem engineOf_ok (s : ByteArray) (w : World) (h60 : s.size ≤ 60) (hL : Letters w) (l : List (Int × Bool)) (win : Int) (hp : Pl.parse s = some (l, win)) :
    Calls Tryz.prog 41 #[.string s] w fun e w' => ∃ eb v, e = .returned (.tuple #[.pointer (some ⟨eb, 0, none⟩), .nilIface]) ∧ w.heap.size ≤ eb ∧ w'.heap[eb]? = some (.cells #[v, .int .i64 win, .int .i64 (-9223372036854775808), .int .i64 0, .slice none 0 0, .slice none 0 0] 159 (0, 0)) ∧ w'.ownsRow w.heap.size 225 2 v l.length (stepCells l) ∧ Below w.heap.size w w' := by
  have HP := hid (pParse_any s w h60 hL)
  unfold ParseEnd at HP
  rw [hp] at HP
  have HP' : Hid (Calls Tryz.prog 83 #[.string s] w fun e w' => ∃ ao cap, e = .returned (.tuple #[.agg #[.slice ao l.length cap, .int .i64 win], .nilIface]) ∧ w'.ownsRow w.heap.size 225 2 (.slice ao l.length cap) l.length (stepCells l) ∧ Below w.heap.size w w') := HP.out.mono fun e w' ⟨v, he, own1, b1⟩ => by
    obtain ⟨ao, cap, rfl⟩ := own_slice own1
    exact ⟨ao, cap, he, own1, b1⟩
  clear h60 HP hL hp
  go_enter Tryz.func41, Tryz.ntmps41
  go_wp2_with (go_at_call 83; refine HP'.out.mono ?_)
  rintro e w1 ⟨ao, cap, rfl, own1, b1⟩
  have hal := (Below.refl w1.heap.size w1).alloc (Nat.le_refl _) (.cells #[.slice ao l.length cap, .int .i64 win] 154)
  have HB := hid (And.intro own1 (And.intro b1 hal))
  clear b1 own1 hal
  go_wp2_with (go_at_call 84; refine (eNew_any ao l.length cap win _).mono ?_; rintro e w2 ⟨eb, rfl, h1, h2, h3⟩; have H2 := hid (And.intro h1 (And.intro h2 h3)); clear h1 h2 h3)
  go_ret2
  have hb2 := HB.out.2.2.trans (H2.out.2.2.mono HB.out.2.2.size)
  exact ⟨eb, _, rfl, Nat.le_trans HB.out.2.1.size (Nat.le_trans HB.out.2.2.size H2.out.1), H2.out.2.1, own_below HB.out.1 hb2, HB.out.2.1.trans (hb2.mono HB.out.2.1.size)⟩

set_option maxHeartbeats 4000000 in
theorem sNew_any (s : ByteArray) (w : World) (hE : EnvG w) (hm : s.size ≤ 9223372036854775807) :
    Calls Tryz.prog 25 #[.string s] w (SNewEnd s w) := by
  unfold SNewEnd
  by_cases h60 : 60 < s.size
  · simp only [if_pos h60]
    have HP := hid (engineOf_long s w h60 hm)
    have HE := hid hE
    clear hE h60
    go_enter Tryz.func25, Tryz.ntmps25
    go_wp2_with (go_at_call 41; refine HP.out.mono ?_; rintro e w1 ⟨rfl, b1⟩; have HN := hid (pnum_long s.size w1 (HE.out.below b1).err); have HB := hid b1; clear b1)
    refine HN.out.mono ?_
    rintro e w2 ⟨rfl, b2⟩
    have HB2 := hid b2
    clear b2
    go_wp2
    go_ret2
    exact ⟨rfl, HB.out.trans (HB2.out.mono HB.out.size)⟩
  · simp only [if_neg h60]
    cases hq : Pl.parse s with
    | none =>
      show Calls _ _ _ _ fun e w' => e = .returned (.tuple #[.pointer none, .int .i64 2]) ∧ Below w.heap.size w w'
      have HP := hid (engineOf_bad s w (by omega) hE.letters hq)
      have HE := hid hE
      clear hE h60 hq
      go_enter Tryz.func25, Tryz.ntmps25
      go_wp2_with (go_at_call 41; refine HP.out.mono ?_; rintro e w1 ⟨⟨k, rfl⟩, b1⟩; have HN := hid (pnum_syn k w1 (HE.out.below b1).err); have HB := hid b1; clear b1)
      refine HN.out.mono ?_
      rintro e w2 ⟨rfl, b2⟩
      have HB2 := hid b2
      clear b2
      go_wp2
      go_ret2
      exact ⟨rfl, HB.out.trans (HB2.out.mono HB.out.size)⟩
    | some q =>
      obtain ⟨l, win⟩ := q
      show Calls _ _ _ _ fun e w' => ∃ sb eb v, e = .returned (.tuple #[.pointer (some ⟨sb, 0, none⟩), .int .i64 0]) ∧ SNewAt w w' sb eb v l win
      have HP := hid (engineOf_ok s w (by omega) hE.letters l win hq)
      clear hE h60 hq
      go_enter Tryz.func25, Tryz.ntmps25
      go_wp2_with (go_at_call 41; refine HP.out.mono ?_; rintro e w1 ⟨eb, v, rfl, h1, h2, h3, h4⟩; have H1 := hid (And.intro h1 (And.intro h2 (And.intro h3 h4))); clear h1 h2 h3 h4)
      go_ret2
      have hal := (Below.refl w1.heap.size w1).alloc (Nat.le_refl _) (.cells #[.pointer (some ⟨eb, 0, none⟩)] 74)
      have leb := lt_of_block H1.out.2.1
      refine ⟨w1.heap.size, eb, v, rfl, ?_, ?_, ?_, H1.out.2.2.2.size, H1.out.1, by omega, ?_⟩
      · exact heap_alloc_new w1 _
      · exact (hal.block _ leb).trans H1.out.2.1
      · exact own_below H1.out.2.2.1 hal
      · exact H1.out.2.2.2.trans (hal.mono H1.out.2.2.2.size)

end Go.Proofs.YtfldcmdhneegmaaGreatDoor

/-
  One engine of the program in memory: New.
-/
namespace Go.Proofs.YtfldcmdhneegmaaGreatDoor
open Go.RowKit Go.Lib

/-- New. -/
theorem GAt.start {w w' : World} {sb eb : Nat} {v : Value} {l : List (Int × Bool)} {win : Int} (hf : Pl.Fine l win) (h1 : SNewAt w w' sb eb v l win) :
    GAt (fun b => w.heap.size ≤ b ∧ b < w'.heap.size) w' sb eb ⟨l, win⟩ (-9223372036854775808) 0 [] [] 0 (fun _ => 0) := by
  have lsb := lt_of_block h1.blk
  have leb := lt_of_block h1.eng
  have l1 := h1.lsb
  have l2 := h1.leb
  refine ⟨fun b => w.heap.size ≤ b ∧ b < w'.heap.size ∧ b ≠ sb, v, .slice none 0 0, .slice none 0 0, [], [], ⟨h1.blk, ⟨h1.eng, ⟨l2, leb, fun e => h1.ne e.symm⟩, ?_, World.ownsRow_nil _ _ _ _, fun g hg => (by cases hg), fun b _ hg => (by cases hg), ⟨rfl, Or.inl ⟨rfl, rfl⟩⟩, fun x hx => (by cases hx)⟩, fun k _ hk => by simp at hk, List.Perm.refl _, En.Pw.start _ hf.w0 hf.w9 (List.length_pos_iff.2 hf.ne) hf.l4, fun b hb => hb.2.1, fun hb => hb.2.2 rfl⟩, rfl, fun b => ?_⟩
  · have hr := RowAt.ofOwn h1.own
    rcases hr.2 with ⟨he, h0⟩ | ⟨b, o, cap, he, -, r1, r2, r3, r4⟩
    · exact ⟨hr.1, Or.inl ⟨he, h0⟩⟩
    · have hv : v.ownBlock = some b := by rw [he]; rfl
      obtain ⟨k1, c, fz, k2⟩ := own_block h1.own b hv
      have k3 := (h1.own.lt b hv).2
      refine ⟨hr.1, Or.inr ⟨b, o, cap, he, ⟨⟨k1, k3, fun e => ?_⟩, fun e => ?_⟩, r1, r2, r3, r4⟩⟩
      · rw [e, h1.blk] at k2
        cases k2
      · rw [e, h1.eng] at k2
        cases k2
  · constructor
    · intro hb
      by_cases e : b = sb
      · exact Or.inr e
      · exact Or.inl ⟨hb.1, hb.2, e⟩
    · rintro (hb | rfl)
      · exact ⟨hb.1, hb.2.1⟩
      · exact ⟨l1, lsb⟩

end Go.Proofs.YtfldcmdhneegmaaGreatDoor
