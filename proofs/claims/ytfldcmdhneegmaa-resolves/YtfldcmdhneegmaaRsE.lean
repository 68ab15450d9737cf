/-
  package slices' DeleteFunc at the states that are kept.
-/
import Derived.Test.YtfldcmdhneegmaaRsD
namespace Go.Proofs.Ytfldcmdhneegmaa
open Go.RowKit Go.Lib Go.Shelf

/-- A row of states that are kept: each beside its row of bytes. -/
def StsAt (base : Nat) (w : World) (v : Value) (ps : List (Value × List UInt8)) : Prop :=
  w.ownsRow base 24 1 v ps.length (ps.map (·.1)) ∧ ∀ p ∈ ps, StAt w p.1 p.2

theorem sortWorld_other {α : Type} [Inhabited α] (enc : α → Value) (w : World) (g n : Nat) (dk : Array α) (os : Array Obj) (i : Nat) (hi : i < w.heap.size) (hne : i ≠ g) : (sortWorld enc w g 0 n dk os).heap[i]? = w.heap[i]? := by
  have h1 : (Sort.putRow enc (Sort.ahead w n) g 0 dk).heap[i]? = w.heap[i]? := by
    show (w.heap.modify g _)[i]? = _
    rw [Array.getElem?_modify, if_neg (fun e => hne e.symm)]
  show ((Sort.putRow enc (Sort.ahead w n) g 0 dk).heap ++ os)[i]? = _
  rw [Array.getElem?_append_left (by rw [Sort.size_putRow]; exact hi)]
  exact h1
theorem sortWorld_size {α : Type} [Inhabited α] (enc : α → Value) (w : World) (g n : Nat) (dk : Array α) (os : Array Obj) : w.heap.size ≤ (sortWorld enc w g 0 n dk os).heap.size := by
  show w.heap.size ≤ ((Sort.putRow enc (Sort.ahead w n) g 0 dk).heap ++ os).size
  rw [Array.size_append, Sort.size_putRow]
  show w.heap.size ≤ w.heap.size + os.size
  omega

set_option maxHeartbeats 1000000 in
set_option maxRecDepth 100000 in
theorem indexB_nil (fv : Value) (w : World) :
    Calls Try.prog 30 #[.slice none 0 0, fv] w fun e w' => e = .returned (.int .i64 (-1)) ∧ w' = w := by
  go_enter Try.func30, Try.ntmps30
  go_wp2
  refine wp_loop_rounds 1 ?_
  rw [rounds_succ]
  go_wp2
  go_ret
  exact ⟨rfl, rfl⟩
set_option maxHeartbeats 1000000 in
set_option maxRecDepth 100000 in
theorem deleteB_nil (g : Nat) (lb : Array Value) (w : World) :
    Calls Try.prog 17 #[.slice none 0 0, .func (.func g) #[] lb] w fun e w' => e = .returned (.slice none 0 0) ∧ w' = w := by
  have HC := hid (fun W => indexB_nil (.func (.func g) #[] lb) W)
  go_enter Try.func17, Try.ntmps17
  go_wp2_with (go_at_call 30; refine (HC.out _).mono ?_; rintro e w1 ⟨rfl, hw⟩; subst hw)
  go_ret
  exact ⟨rfl, rfl⟩

/-- The states, as DeleteFunc meets them. -/
def dItems (w : World) (ps : List (Value × List UInt8)) (h : ∀ p ∈ ps, StAt w p.1 p.2) : List (DItem w) := ps.pmap (fun p hp => ⟨p, Or.inr hp⟩) h
theorem dItems_map (w : World) (ps : List (Value × List UInt8)) (h : ∀ p ∈ ps, StAt w p.1 p.2) : (dItems w ps h).map (·.1) = ps := by
  unfold dItems
  rw [List.map_pmap]
  simp
theorem dItems_len (w : World) (ps : List (Value × List UInt8)) (h : ∀ p ∈ ps, StAt w p.1 p.2) : (dItems w ps h).length = ps.length := by
  unfold dItems
  simp

set_option maxHeartbeats 1000000 in
set_option maxRecDepth 100000 in
theorem deleteB_any (base sb : Nat) (w : World) (v : Value) (ps : List (Value × List UInt8)) (hr : StsAt base w v ps) (cS : Value) (x0 : List UInt8) (hS : StAt w cS x0) (hs : w.cell? ⟨sb, 0, none⟩ = some cS) (hne : v.ownBlock ≠ some sb) :
    Calls Try.prog 17 #[v, .func (.func 18) #[] #[.pointer (some ⟨sb, 0, none⟩)]] w fun e w' => ∃ v', e = .returned v' ∧ w'.ownsRow base 24 1 v' (ps.filter fun p => !decide (p.2 = x0)).length ((ps.filter fun p => !decide (p.2 = x0)).map (·.1)) ∧ w.grownBy w' v.ownBlock ∧ v'.ownBlock = v.ownBlock ∧ w'.heap.size = w.heap.size := by
  letI : Inhabited (DItem w) := ⟨⟨(.slice none 0 0, []), Or.inl ⟨rfl, rfl⟩⟩⟩
  obtain ⟨hown, hst⟩ := hr
  rcases hown.2 with ⟨rfl, h0⟩ | ⟨g, cap, cur, rfl, hbase, hblk, hn, hmax, hcur, htake⟩
  · obtain rfl : ps = [] := List.eq_nil_of_length_eq_zero h0
    refine (deleteB_nil _ _ w).mono ?_
    rintro e w' ⟨rfl, rfl⟩
    exact ⟨_, rfl, World.ownsRow_nil _ _ _ _, ⟨rfl, rfl, rfl, Nat.le_refl _, fun _ _ _ => rfl⟩, rfl, rfl⟩
  · have hsg : sb ≠ g := fun e => hne (by rw [e]; rfl)
    have hu8 : ∀ i, U8 w i → i ≠ g := fun i hi e => by
      obtain ⟨c, fz, h⟩ := hi
      rw [e, hblk] at h
      cases h
    have hltu : ∀ i, U8 w i → i < w.heap.size := fun i ⟨c, fz, h⟩ => lt_of_block h
    have hsb : sb < w.heap.size := World.block_lt_of_cell? w ⟨sb, 0, none⟩ hs
    have hlen := dItems_len w ps hst
    have hmap := dItems_map w ps hst
    generalize dItems w ps hst = ds at hlen hmap
    have hcell : ∀ j (hj : j < ds.length), cur[j]? = some (dEnc w ds[j]) := fun j hj => by
      have h1 : cur.toList[j]? = (ps.map (·.1))[j]? := by
        rw [← htake, List.getElem?_take_of_lt (by omega)]
      rw [Array.getElem?_toList] at h1
      rw [h1, ← hmap]
      simp [hj, dEnc]
    have hH : Sort.Holds (dEnc w) w g 0 ds.toArray := fun j hj => by
      have hj' : j < ds.length := by simpa using hj
      have h2 : ds.toArray[j]! = ds[j] := by simp [hj']
      rw [h2]
      refine ⟨?_, ?_⟩
      · have := hcell j hj'
        simp [World.cell?, hblk, this]
      · simp [World.frozen?, hblk]
    have hp : PredAt Try.prog 18 #[.pointer (some ⟨sb, 0, none⟩)] (dEnc w) (fun x => decide (x.1.2 = x0)) w := fun W x hb =>
      (keep1_any w W x sb cS x0 (fun i hi => hb.block i (hltu i hi)) hb.size ((hb.cell (p := ⟨sb, 0, none⟩) hsb).trans hs) hS).mono fun e w' ⟨h1, h2⟩ => ⟨h1, 0, h2⟩
    have hpo : PredOver Try.prog 18 #[.pointer (some ⟨sb, 0, none⟩)] (dEnc w) (fun x => decide (x.1.2 = x0)) g 0 ds.toArray.size w := fun n os dk x hdk =>
      (keep1_any w _ x sb cS x0 (fun i hi => sortWorld_other _ w g n dk os i (hltu i hi) (hu8 i hi)) (sortWorld_size _ w g n dk os) ((World.cell?_of_block (a := ⟨sb, 0, none⟩) (sortWorld_other _ w g n dk os sb hsb hsg)).trans hs) hS).mono fun e w' ⟨h1, h2⟩ => ⟨h1, 0, h2⟩
    have hC := AnyE.slices_DeleteFunc Try.delLays (dEnc w) (dEnc_one w) (fun x => decide (x.1.2 = x0)) 18 #[.pointer (some ⟨sb, 0, none⟩)] (enters_of Try.func18 (by kernel_rfl) rfl) default Try.zeroValue24 g 0 cap ds.toArray w hp hpo hH (by simp; unfold maxLen at hmax; omega) (by simp; omega)
    have hsz2 : ds.toArray.size = ps.length := by simp [hlen]
    rw [hsz2] at hC
    refine Calls.mono hC ?_
    rintro e w' ⟨rfl, q, rfl⟩
    have hfm : (ds.filter fun x => !decide (x.1.2 = x0)).map (·.1) = ps.filter fun p => !decide (p.2 = x0) := by
      rw [← hmap, List.filter_map]
      rfl
    have hfl : (ds.filter fun x => !decide (x.1.2 = x0)).length ≤ ds.length := List.length_filter_le _ _
    simp only [] at *
    generalize hfs : (ds.filter fun x => !decide (x.1.2 = x0)) = fs at *
    have hfl2 : (ps.filter fun p => !decide (p.2 = x0)).length = fs.length := by rw [← hfm, List.length_map]
    have hfc : (ps.filter fun p => !decide (p.2 = x0)).map (·.1) = fs.map (dEnc w) := by rw [← hfm, List.map_map]; rfl
    have hdd : (fs ++ List.replicate (ps.length - fs.length) default).toArray.size = ps.length := by simp; omega
    have hb1 : (Sort.putRow (dEnc w) (Sort.ahead w q) g 0 (fs ++ List.replicate (ps.length - fs.length) default).toArray).heap[g]? = some (.cells (Sort.putCells (dEnc w) 0 (fs ++ List.replicate (ps.length - fs.length) default).toArray cur) 24 (0, 0)) := by
      show (w.heap.modify g _)[g]? = _
      rw [Array.getElem?_modify, if_pos rfl, hblk]
      rfl
    refine ⟨_, rfl, ?_, ?_, rfl, Sort.size_putRow _ _ _ _ _⟩
    · rw [hfl2, hfc]
      refine ⟨by simp, Or.inr ⟨g, cap, _, rfl, hbase, hb1, by omega, hmax, by rw [← hcur]; simp [Sort.putCells], ?_⟩⟩
      apply List.ext_getElem?
      intro j
      by_cases hj : j < fs.length
      · have hjc : j < cur.size := by omega
        have hjd : j < (fs ++ List.replicate (ps.length - fs.length) default).toArray.size := by omega
        have h3 : (fs ++ List.replicate (ps.length - fs.length) (default : DItem w)).toArray[j]! = fs[j] := by
          rw [getElem!_pos _ j hjd]
          simp [hj]
        rw [List.getElem?_take_of_lt (by omega), Array.getElem?_toList]
        have h4 : (Sort.putCells (dEnc w) 0 (fs ++ List.replicate (ps.length - fs.length) default).toArray cur)[j]? = some (dEnc w fs[j]) := by
          unfold Sort.putCells
          rw [Array.getElem?_mapIdx, Array.getElem?_eq_getElem hjc]
          simp only [Option.map_some]
          rw [if_pos ⟨Nat.zero_le _, by omega⟩, Nat.sub_zero, h3]
        rw [h4]
        simp [hj]
      · rw [List.getElem?_eq_none (by rw [List.length_take]; omega), List.getElem?_eq_none (by simp; omega)]
    · refine ⟨rfl, rfl, rfl, by rw [Sort.size_putRow]; exact Nat.le_refl _, fun i hi hne' => ?_⟩
      show (w.heap.modify g _)[i]? = _
      rw [Array.getElem?_modify, if_neg (fun e => hne' (by rw [e]; rfl))]

end Go.Proofs.Ytfldcmdhneegmaa
