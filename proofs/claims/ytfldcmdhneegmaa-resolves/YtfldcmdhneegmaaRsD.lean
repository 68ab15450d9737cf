/-
  package chain's WALK of keep's function literal; slices.DeleteFunc over it.
-/
import Derived.Test.YtfldcmdhneegmaaRsC
import Derived.Test.YtfldcmdhneegmaaFrQ
import Derived.Shelf.SlicesE.DeleteFunc
import Derived.Laws.BytesArg
namespace Go.Proofs.Ytfldcmdhneegmaa
open Go.RowKit Go.Lib Go.Shelf

def Try.delRen : Go.Shelf.Ren := ⟨fun | 6 => 30 | 10 => 17 | n => n, fun | 0 => 0 | 3 => 3 | 4 => 4 | 22 => 23 | 23 => 24 | 25 => 58 | n => n, fun | n => n⟩
theorem Try.delLays : Go.Proofs.SlLaysH.n10 Try.prog Try.delRen := {
  mixed := by kernel_rfl
  f6 := ⟨Try.f30.name, by kernel_rfl, Try.func30.trans (congrArg some (by kernel_rfl))⟩
  f10 := ⟨Try.f17.name, by kernel_rfl, Try.func17.trans (congrArg some (by kernel_rfl))⟩
  t0 := Try.underlying0
  a0 := Try.isAgg0
  z0 := Try.sizeOf0
  v0 := Try.zeroValue0
  t3 := Try.underlying3
  a3 := Try.isAgg3
  z3 := Try.sizeOf3
  v3 := Try.zeroValue3
  t4 := Try.underlying4
  a4 := Try.isAgg4
  z4 := Try.sizeOf4
  v4 := Try.zeroValue4
  t22 := Try.underlying23
  a22 := Try.isAgg23
  z22 := Try.sizeOf23
  v22 := Try.zeroValue23
  a23 := Try.isAgg24
  z23 := Try.sizeOf24
  t25 := Try.underlying58
  a25 := Try.isAgg58
  z25 := Try.sizeOf58
  v25 := Try.zeroValue58 }

theorem BytesAt.u8 {w W : World} {c : Value} {x : List UInt8} (h : BytesAt (U8 w) w c x) (hu : ∀ i, U8 w i → W.heap[i]? = w.heap[i]?) (hs : w.heap.size ≤ W.heap.size) : BytesAt (U8 w) W c x := by
  obtain ⟨hl, hr⟩ := h
  refine ⟨hl, ?_⟩
  rcases hr with h0 | ⟨b, o, cap, he, hFb, hb, hn, hc, r⟩
  · exact Or.inl h0
  · refine Or.inr ⟨b, o, cap, he, hFb, by omega, hn, hc, fun j u hj => ?_⟩
    rw [World.cell?_of_block (a := ⟨b, o + j, none⟩) (hu b hFb)]
    exact r j u hj
theorem run_nil_textB (W : World) : (convert 24 9 (.slice none 0 0)).run Try.prog W = .ok (.string ⟨#[]⟩) W := run_convert_bytes_nil W 24 5 Try.underlying24 Try.underlying5 0 0 9 Try.underlying9
set_option maxHeartbeats 1000000 in
theorem bEqual_nil (G : Nat → Prop) (u : Value) (m : List UInt8) (w : World) (h' : BytesAt G w u m) (hn' : u ≠ .slice none 0 0) :
    Calls Try.prog 19 #[.slice none 0 0, u] w fun e w' => e = .returned (.bool (decide ([] = m))) ∧ w' = w := by
  have h10 := run_nil_textB w
  have h20 := h'.text hn'
  clear h'
  go_enter Try.func19, Try.ntmps19
  go_wp2
  go_ret
  refine ⟨?_, rfl⟩
  cases m with
  | nil => simp
  | cons b t => simp

/-- What DeleteFunc may meet: a state that is kept, or the zero value. -/
abbrev DItem (w : World) := { x : Value × List UInt8 // (x.1 = .slice none 0 0 ∧ x.2 = []) ∨ StAt w x.1 x.2 }
def dEnc (w : World) (x : DItem w) : Value := x.1.1
theorem dEnc_slice (w : World) (x : DItem w) : ∃ a n c, dEnc w x = .slice a n c := by
  obtain ⟨⟨v, l⟩, h⟩ := x
  rcases h with ⟨h, _⟩ | ⟨hn, h, _⟩
  · exact ⟨_, _, _, h⟩
  · obtain ⟨a, n, c, h⟩ := BytesAt.isSlice h hn
    exact ⟨_, _, _, h⟩
theorem dEnc_one (w : World) : OneCell (dEnc w) := fun x => by
  obtain ⟨a, n, c, h⟩ := dEnc_slice w x
  rw [h]
  rfl

set_option maxHeartbeats 1000000 in
set_option maxRecDepth 100000 in
theorem keep1_any (w W : World) (x : DItem w) (sb : Nat) (cS : Value) (x0 : List UInt8) (hu : ∀ i, U8 w i → W.heap[i]? = w.heap[i]?) (hsz : w.heap.size ≤ W.heap.size) (hs : W.cell? ⟨sb, 0, none⟩ = some cS) (hS : StAt w cS x0) :
    Calls Try.prog 18 #[dEnc w x, .pointer (some ⟨sb, 0, none⟩)] W fun e w' => e = .returned (.bool (decide (x.1.2 = x0))) ∧ w' = W := by
  obtain ⟨hSn, hSb, hS5, -⟩ := hS
  have hSW := hSb.u8 hu hsz
  obtain ⟨a0, n0, c0, rfl⟩ := BytesAt.isSlice hSb hSn
  have HC : Hid (Calls Try.prog 19 #[dEnc w x, .slice (some a0) n0 c0] W fun e w' => e = .returned (.bool (decide (x.1.2 = x0))) ∧ w' = W) := by
    obtain ⟨⟨v, l⟩, h⟩ := x
    rcases h with ⟨h1, h2⟩ | ⟨h1, h2, h3, h4⟩
    · have h1' : v = .slice none 0 0 := h1
      have h2' : l = [] := h2
      subst h1' h2'
      exact bEqual_nil (U8 w) _ x0 W hSW hSn
    · exact bEqual_any (U8 w) (U8 w) v _ l x0 W (BytesAt.u8 h2 hu hsz) hSW h1 hSn
  obtain ⟨xa, xn, xc, hx⟩ := dEnc_slice w x
  rw [hx] at HC ⊢
  clear hu hSb hSW hS5
  go_enter Try.func18, Try.ntmps18
  go_wp2_with (go_at_call 19; refine HC.out.mono ?_; rintro e w1 ⟨rfl, hw⟩; subst hw)
  go_ret
  exact ⟨rfl, rfl⟩

end Go.Proofs.Ytfldcmdhneegmaa
