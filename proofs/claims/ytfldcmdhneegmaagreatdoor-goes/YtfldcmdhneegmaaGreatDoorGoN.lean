import Derived.Test.YtfldcmdhneegmaaGreatDoorZ49
import Derived.Test.YtfldcmdhneegmaaGreatDoorSnA

/-
  One engine of the program in memory: New.
-/
namespace Go.Proofs.YtfldcmdhneegmaaGreatDoor
open Go.RowKit Go.Lib

/-- New. -/
theorem GAt.start {w w' : World} {sb eb : Nat} {v : Value} {l : List (Int × Bool)} {win : Int} (hf : Pl.Fine l win) (h1 : SNewAt w w' sb eb v l win) :
    GAt (fun b => w.heap.size ≤ b ∧ b < w'.heap.size) w' sb eb ⟨l, win⟩ (-9223372036854775808) 0 [] [] 0 (fun _ => 0) := by
  have lsb := lt_of_block h1.blk
  have leb := lt_of_block h1.eng
  have l1 := h1.lsb
  have l2 := h1.leb
  refine ⟨fun b => w.heap.size ≤ b ∧ b < w'.heap.size ∧ b ≠ sb, v, .slice none 0 0, .slice none 0 0, [], [], ⟨h1.blk, ⟨h1.eng, ⟨l2, leb, fun e => h1.ne e.symm⟩, ?_, World.ownsRow_nil _ _ _ _, fun g hg => (by cases hg), fun b _ hg => (by cases hg), ⟨rfl, Or.inl ⟨rfl, rfl⟩⟩, fun x hx => (by cases hx)⟩, fun k _ hk => by simp at hk, List.Perm.refl _, En.Pw.start _ hf.w0 hf.w9 (List.length_pos_iff.2 hf.ne) hf.l4, fun b hb => hb.2.1, fun hb => hb.2.2 rfl⟩, rfl, fun b => ?_⟩
  · have hr := RowAt.ofOwn h1.own
    rcases hr.2 with ⟨he, h0⟩ | ⟨b, o, cap, he, -, r1, r2, r3, r4⟩
    · exact ⟨hr.1, Or.inl ⟨he, h0⟩⟩
    · have hv : v.ownBlock = some b := by rw [he]; rfl
      obtain ⟨k1, c, fz, k2⟩ := own_block h1.own b hv
      have k3 := (h1.own.lt b hv).2
      refine ⟨hr.1, Or.inr ⟨b, o, cap, he, ⟨⟨k1, k3, fun e => ?_⟩, fun e => ?_⟩, r1, r2, r3, r4⟩⟩
      · rw [e, h1.blk] at k2
        cases k2
      · rw [e, h1.eng] at k2
        cases k2
  · constructor
    · intro hb
      by_cases e : b = sb
      · exact Or.inr e
      · exact Or.inl ⟨hb.1, hb.2, e⟩
    · rintro (hb | rfl)
      · exact ⟨hb.1, hb.2.1⟩
      · exact ⟨l1, lsb⟩

end Go.Proofs.YtfldcmdhneegmaaGreatDoor
