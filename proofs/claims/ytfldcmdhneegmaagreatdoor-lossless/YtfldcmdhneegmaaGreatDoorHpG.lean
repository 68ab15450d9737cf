import Derived.Test.YtfldcmdhneegmaaGreatDoorZ16

/-
  package engine's queue: WALKS, 7: has (slices.ContainsFunc over a closure).
-/
namespace Go.Proofs.YtfldcmdhneegmaaGreatDoor
open Go.RowKit Go.Lib

set_option maxHeartbeats 1000000 in
theorem qHas1_any (x : En.Ev) (of0 : Int) (kb : Nat) (w : World) (hc : w.cell? ⟨kb, 0, none⟩ = some (.int .i64 of0)) :
    Calls Tryz.prog 231 #[.agg #[.int .i64 x.off, .int .i32 x.kind, .int .i64 x.time], .pointer (some ⟨kb, 0, none⟩)] w fun e w' => e = .returned (.bool (x.off == of0)) ∧ Below w.heap.size w w' := by
  have hlt : kb < w.heap.size := World.block_lt_of_cell? w ⟨kb, 0, none⟩ hc
  have hca : ∀ o, (w.alloc o).cell? ⟨kb, 0, none⟩ = some (.int .i64 of0) := fun o => (World.cell?_alloc_lt w o ⟨kb, 0, none⟩ hlt).trans hc
  go_enter Tryz.func231, Tryz.ntmps231
  go_wp2
  go_ret
  exact ⟨rfl, (Below.refl _ _).alloc (Nat.le_refl _) _⟩

set_option maxHeartbeats 2000000 in
set_option maxRecDepth 1000000 in
theorem indexQ_any (F : Nat → Prop) (v : Value) (l : List En.Ev) (of0 : Int) (kb : Nat) (w : World) (h : EvsAt F w v l) (hl : l.length ≤ 1000000) (hc : w.cell? ⟨kb, 0, none⟩ = some (.int .i64 of0)) :
    Calls Tryz.prog 259 #[v, .func (.func 231) #[] #[.pointer (some ⟨kb, 0, none⟩)]] w fun e w' => ∃ i : Int, e = .returned (.int .i64 i) ∧ decide (0 ≤ i) = (l.any fun x => x.off == of0) ∧ -1 ≤ i ∧ i ≤ 1000000 ∧ Below w.heap.size w w' := by
  obtain ⟨ao, cap, rfl, -, -⟩ := RowAt.slice h
  have hlt : kb < w.heap.size := World.block_lt_of_cell? w ⟨kb, 0, none⟩ hc
  have H := hid h
  clear h
  go_enter Tryz.func259, Tryz.ntmps259
  go_wp2
  go_loopw [8] (fun i wr => ∃ k : Nat, k ≤ l.length ∧ i = .int .i64 k ∧ Hid ((l.drop k).any (fun x => x.off == of0) = (l.any fun x => x.off == of0) ∧ Below w.heap.size w wr)) (fun i _ => l.length - (intOf i).toNat)
  case atStart => exact ⟨0, Nat.zero_le _, rfl, rfl, Below.refl _ _⟩
  case round =>
    obtain ⟨k, hk, rfl, hr⟩ := hrel
    by_cases hlt2 : k < l.length
    · obtain ⟨b1, o1, hb, hb1, d0, d1, d2⟩ := EvsAt.get (H.out.below hr.out.2) hlt2
      subst hb
      have hd : (l.drop k).any (fun x => x.off == of0) = ((l[k].off == of0) || (l.drop (k + 1)).any fun x => x.off == of0) := by rw [List.drop_eq_getElem_cons hlt2]; rfl
      rw [hr.out.1] at hd
      have hk' : (k : Int) < (l.length : Int) := by omega
      have HP := hid (qHas1_any l[k] of0 kb wr ((cell_bel hr.out.2 ⟨kb, 0, none⟩ hlt).trans hc))
      generalize l[k] = x at *
      cases he : (x.off == of0)
      · rw [he] at HP hd
        have HD := hid hd
        clear hd he
        go_wp2_with (go_at_call 231; refine HP.out.mono ?_; rintro e w1 ⟨rfl, hb⟩; have HB := hid (hr.out.2.trans (hb.mono hr.out.2.size)); clear hb)
        go_roundw
        case rel => exact ⟨k + 1, by omega, by go_num, by rw [HD.out]; rfl, HB.out⟩
        case measure => simp [intOf]; omega
      · rw [he] at HP hd
        have HD := hid hd
        clear hd he
        go_wp2_with (go_at_call 231; refine HP.out.mono ?_; rintro e w1 ⟨rfl, hb⟩; have HB := hid (hr.out.2.trans (hb.mono hr.out.2.size)); clear hb)
        go_ret
        exact ⟨k, rfl, by rw [HD.out]; simp, by omega, by omega, HB.out⟩
    · go_wp2
      go_ret
      refine ⟨-1, rfl, ?_, by omega, by omega, hr.out.2⟩
      have := hr.out.1
      rw [List.drop_eq_nil_of_le (by omega)] at this
      rw [← this]
      rfl

set_option maxHeartbeats 1000000 in
theorem containsQ_any (F : Nat → Prop) (v : Value) (l : List En.Ev) (of0 : Int) (kb : Nat) (w : World) (h : EvsAt F w v l) (hl : l.length ≤ 1000000) (hc : w.cell? ⟨kb, 0, none⟩ = some (.int .i64 of0)) :
    Calls Tryz.prog 230 #[v, .func (.func 231) #[] #[.pointer (some ⟨kb, 0, none⟩)]] w fun e w' => e = .returned (.bool (l.any fun x => x.off == of0)) ∧ Below w.heap.size w w' := by
  have HI := hid (indexQ_any F v l of0 kb w h hl hc)
  clear h
  go_enter Tryz.func230, Tryz.ntmps230
  go_wp2_with (go_at_call 259; refine HI.out.mono ?_; rintro e w1 ⟨i, rfl, h1, h2, h3, h4⟩; have H1 := hid (And.intro h1 h4); clear h1 h4)
  go_ret
  exact ⟨by rw [← H1.out.1]; rfl, H1.out.2⟩

set_option maxHeartbeats 1000000 in
theorem qHas_any (F : Nat → Prop) (v : Value) (l : List En.Ev) (of0 : Int) (w : World) (h : EvsAt F w v l) (hl : l.length ≤ 1000000) :
    Calls Tryz.prog 187 #[v, .int .i64 of0] w fun e w' => e = .returned (.bool (l.any fun x => x.off == of0)) ∧ Below w.heap.size w w' := by
  obtain ⟨ao, cap, rfl, -, -⟩ := RowAt.slice h
  have hmf : ∀ (fn : Fn) (first cap : Array Value) (w : World), (Instr.makeFunc fn first cap).run Tryz.prog w = .ok (.func fn first cap) w := fun _ _ _ _ => rfl
  have HC := hid (fun o hc => containsQ_any F (.slice ao l.length cap) l of0 w.heap.size (w.alloc o) (h.below ((Below.refl _ _).alloc (Nat.le_refl _) _)) hl hc)
  clear h
  go_enter Tryz.func187, Tryz.ntmps187
  go_wp2_with (go_at_call 230; refine (HC.out _ (by rw [World.cell?_alloc_at _ _ _ _ (by simp)]; rfl)).mono ?_; rintro e w1 ⟨rfl, hb⟩; have HB := hid hb; clear hb)
  go_ret
  exact ⟨rfl, ((Below.refl _ w).alloc (Nat.le_refl _) _).trans (HB.out.mono (by simp))⟩

end Go.Proofs.YtfldcmdhneegmaaGreatDoor
