/-
  package chain's WALK of keep.
-/
import Derived.Test.YtfldcmdhneegmaaRsF
import Derived.Deep.AppendLies
import Derived.Deep.RegionHeld3
namespace Go.Proofs.Ytfldcmdhneegmaa
open Go.RowKit Go.Lib Go.Shelf

/-- Blocks of cells that are no rows of rows lie as they lay. -/
def KeepsT (w w' : World) : Prop := w.heap.size ≤ w'.heap.size ∧ ∀ (i : Nat) (c : Array Value) (t : TypeId) (fz : Nat × Nat), w.heap[i]? = some (.cells c t fz) → t ≠ 24 → w'.heap[i]? = w.heap[i]?
theorem KeepsT.refl (w : World) : KeepsT w w := ⟨Nat.le_refl _, fun _ _ _ _ _ _ => rfl⟩
theorem KeepsT.trans {a b c : World} (h : KeepsT a b) (h' : KeepsT b c) : KeepsT a c := ⟨Nat.le_trans h.1 h'.1, fun i cc t fz hi ht => (h'.2 i cc t fz ((h.2 i cc t fz hi ht).trans hi) ht).trans (h.2 i cc t fz hi ht)⟩
theorem KeepsT.below {w w' : World} (h : Below w.heap.size w w') : KeepsT w w' := ⟨h.size, fun i _ _ _ hi _ => h.block i (lt_of_block hi)⟩
theorem KeepsT.grown {w w' : World} {g : Option Nat} (h : w.grownBy w' g) (hg : ∀ b, g = some b → ∀ (c : Array Value) (t : TypeId) (fz : Nat × Nat), w.heap[b]? = some (.cells c t fz) → t = 24) : KeepsT w w' := ⟨h.size, fun i c t fz hi ht => h.block i (lt_of_block hi) (fun e => ht (hg i e.symm c t fz hi))⟩
theorem KeepsT.st {w w' : World} (h : KeepsT w w') {c : Value} {x : List UInt8} (hs : StAt w c x) : StAt w' c x := hs.on (fun i ⟨c, fz, hi⟩ => h.2 i c _ fz hi (by decide)) h.1

theorem grown_allocD {w w' : World} {o : Obj} {x : Option Nat} (h : (w.alloc o).drew.grownBy w' x) : w.grownBy w' x :=
  ⟨h.os, h.tape, h.output, Nat.le_trans (by simp) h.size, fun k hk hne => (h.block k (by simp; omega) hne).trans (Below.heap_alloc _ _ _ hk)⟩
/-- A place's row with one state more, which was taken out ahead. -/
def keepRow (ps : List (Value × List UInt8)) (c : Value) (x : List UInt8) : List (Value × List UInt8) := (ps.filter fun p => !decide (p.2 = x)) ++ [(c, x)]
/-- What is kept, once the states within 0, .., k - 1 deltas are. -/
def keepM (M : Nat → Nat → List (Value × List UInt8)) (fo : Nat → Option (Value × List UInt8)) : Nat → Nat → Nat → List (Value × List UInt8)
  | 0 => M
  | k + 1 => match fo k with
    | none => keepM M fo k
    | some (c, x) => updM (keepM M fo k) (Fr.val (Fr.last4 x)) k (keepRow (keepM M fo k (Fr.val (Fr.last4 x)) k) c x)
def cellO (o : Option (Value × List UInt8)) : Value := match o with
  | none => .slice none 0 0
  | some (c, _) => c
theorem Try.infoRowB : (Try.prog.info? 24).map (fun i => (i.zero, i.size, i.bytes)) = some (some (.slice none 0 0), 1, 24) := by kernel_rfl
theorem Try.indexStates (c0 c1 c2 c3 c4 : Value) (k : Nat) (hk : k < 5) (W : World) : (Instr.index 35 (.agg #[c0, c1, c2, c3, c4]) (.int .i64 k)).run Try.prog W = .ok (if k = 0 then c0 else if k = 1 then c1 else if k = 2 then c2 else if k = 3 then c3 else c4) W := by
  rcases (by omega : k = 0 ∨ k = 1 ∨ k = 2 ∨ k = 3 ∨ k = 4) with rfl | rfl | rfl | rfl | rfl <;> kernel_rfl

set_option maxHeartbeats 4000000 in
set_option maxRecDepth 1000000 in
theorem keep_any (base r : Nat) (M : Nat → Nat → List (Value × List UInt8)) (fo : Nat → Option (Value × List UInt8)) (w : World) (hK : KeepAt base w r M) (hbr : base ≤ r) (hbw : base ≤ w.heap.size) (hfo : ∀ k c x, k < 5 → fo k = some (c, x) → StAt w c x) (hlen : ∀ k s n, k ≤ 5 → (keepM M fo k s n).length ≤ 1000) :
    Calls Try.prog 9 #[.map (some r), .agg #[cellO (fo 0), cellO (fo 1), cellO (fo 2), cellO (fo 3), cellO (fo 4)]] w fun e w' => e = .returned (.tuple #[]) ∧ KeepAt base w' r (keepM M fo 5) ∧ KeepsT w w' ∧ Below base w w' := by
  have hsl : ∀ k, k < 5 → ∃ a n c, cellO (fo k) = .slice a n c := fun k hk => by
    cases hf : fo k with
    | none => exact ⟨_, _, _, rfl⟩
    | some y =>
      obtain ⟨c, x⟩ := y
      obtain ⟨h1, h2, -⟩ := hfo k c x hk hf
      obtain ⟨a, n, cc, h⟩ := BytesAt.isSlice h2 h1
      exact ⟨_, _, _, h⟩
  obtain ⟨a0, n0, q0, h0⟩ := hsl 0 (by omega)
  obtain ⟨a1, n1, q1, h1⟩ := hsl 1 (by omega)
  obtain ⟨a2, n2, q2, h2⟩ := hsl 2 (by omega)
  obtain ⟨a3, n3, q3, h3⟩ := hsl 3 (by omega)
  obtain ⟨a4, n4, q4, h4⟩ := hsl 4 (by omega)
  have hix : ∀ (k : Nat) (W : World), k < 5 → (Instr.index 35 (.agg #[.slice a0 n0 q0, .slice a1 n1 q1, .slice a2 n2 q2, .slice a3 n3 q3, .slice a4 n4 q4]) (.int .i64 k)).run Try.prog W = .ok (cellO (fo k)) W := fun k W hk => by
    rw [Try.indexStates _ _ _ _ _ k hk W]
    rcases (by omega : k = 0 ∨ k = 1 ∨ k = 2 ∨ k = 3 ∨ k = 4) with rfl | rfl | rfl | rfl | rfl
    · rw [h0]; rfl
    · rw [h1]; rfl
    · rw [h2]; rfl
    · rw [h3]; rfl
    · rw [h4]; rfl
  rw [h0, h1, h2, h3, h4]
  have HI := hid (And.intro hix (And.intro hfo hK))
  clear hix hfo hK h0 h1 h2 h3 h4 hsl
  go_enter Try.func9, Try.ntmps9
  go_wp2
  go_loopw [9] (fun i wr => ∃ k : Nat, k ≤ 5 ∧ i = .int .i64 k ∧ Hid (KeepAt base wr r (keepM M fo k) ∧ KeepsT w wr ∧ Below base w wr)) (fun i _ => 5 - (intOf i).toNat)
  case atStart => exact ⟨0, by omega, rfl, HI.out.2.2.below ((Below.refl _ _).alloc (Nat.le_refl _) _), KeepsT.below ((Below.refl _ _).alloc (Nat.le_refl _) _), (Below.refl _ _).alloc hbw _⟩
  case round =>
    obtain ⟨k, hk, rfl, hr⟩ := hrel
    by_cases hk5 : k < 5
    · have hk5' : (k : Int) < 5 := by omega
      have hx := fun W => HI.out.1 k W hk5
      cases hf : fo k with
      | none =>
        rw [hf] at hx
        have HF := hid hf
        clear hf
        simp only [cellO] at hx
        have hnil : ∀ W, (binOp .eql 24 (.slice none 0 0) (.slice none 0 0)).run Try.prog W = .ok (.bool true) W := fun W => Lib.run_eql_slice_nil W _ _ none _ _ _ _ Try.underlying24
        go_wp2
        have hb1 : Below wr.heap.size wr (wr.alloc (.cells #[.slice none 0 0] 24)) := (Below.refl _ _).alloc (Nat.le_refl _) _
        refine ⟨⟨k + 1, by omega, by go_num, ?_, hr.out.2.1.trans (KeepsT.below hb1), hr.out.2.2.trans (hb1.mono (Nat.le_trans hbw hr.out.2.2.size))⟩, by simp [intOf]; omega⟩
        have e1 : keepM M fo (k + 1) = keepM M fo k := by
          show (match fo k with | none => keepM M fo k | some (c, x) => _) = _
          rw [HF.out]
        rw [e1]
        exact hr.out.1.below hb1
      | some y =>
        obtain ⟨c, x⟩ := y
        have hstr : StAt wr c x := hr.out.2.1.st (HI.out.2.1 k c x hk5 hf)
        obtain ⟨ca, cn, cc, rfl⟩ := BytesAt.isSlice hstr.2.1 hstr.1
        rw [hf] at hx
        simp only [cellO] at hx
        obtain ⟨l, hM, hSts, hdis⟩ := hr.out.1
        obtain ⟨S, hS⟩ : ∃ S, Fr.val (Fr.last4 x) = S := ⟨_, rfl⟩
        have hS' : Fr.val (x.drop (x.length - 4)) = S := hS
        obtain ⟨va, vc, hv⟩ := own_slice (hSts S k).1
        obtain ⟨ps, hps⟩ : ∃ ps, keepM M fo k S k = ps := ⟨_, rfl⟩
        have hlp := hlen k S k hk
        rw [hps] at hv hlp
        obtain ⟨W1, hW1⟩ : ∃ W, (wr.alloc (.cells #[.slice (some ca) cn cc] 24)).alloc (.cells #[.int .u32 S, .int .i64 k] 55) = W := ⟨_, rfl⟩
        have hb1 : Below wr.heap.size wr W1 := by rw [← hW1]; exact ((Below.refl _ _).alloc (Nat.le_refl _) _).alloc (by simp) _
        have hsz1 : W1.heap.size = wr.heap.size + 2 := by rw [← hW1]; simp
        have k5 : W1.heap[wr.heap.size]? = some (.cells #[.slice (some ca) cn cc] 24 (0, 0)) := by rw [← hW1]; exact (Below.heap_alloc _ _ _ (by simp)).trans (heap_alloc_new wr _)
        have k6 : W1.heap[wr.heap.size + 1]? = some (.cells #[.int .u32 S, .int .i64 k] 55 (0, 0)) := by rw [← hW1]; exact new_at (by simp)
        have c5 := (one_cellD k5).1
        obtain ⟨c60, c61, -, -⟩ := res_two k6
        have hM1 := hM.on (hb1.block r hM.lt)
        have hlk := run_look hM1 S k
        unfold pk at hlk
        rw [hv] at hlk
        have hSts1 : StsAt base W1 (.slice va ps.length vc) ps := by
          have := (hSts S k).below hb1
          rw [hv, hps] at this
          exact this
        have hownlt : ∀ b, (Value.slice va ps.length vc).ownBlock = some b → b < wr.heap.size := fun b hb => by
          have h := (hSts S k).1
          rw [hv] at h
          obtain ⟨-, c', fz', h'⟩ := own_block h b hb
          exact lt_of_block h'
        have HSum := hid (fun o => fSumOf_any (U8 wr) _ x (wr.alloc o) (hstr.2.1.below ((Below.refl _ _).alloc (Nat.le_refl _) _)) (by have := hstr.2.2.1; omega) (by have := hstr.2.2.2; omega))
        have HD := hid (deleteB_any base wr.heap.size W1 (.slice va ps.length vc) ps hSts1 (.slice (some ca) cn cc) x (hstr.below hb1) c5 (fun e => Nat.lt_irrefl _ (hownlt _ e)))
        have hnil : ∀ W, (binOp .eql 24 (.slice (some ca) cn cc) (.slice none 0 0)).run Try.prog W = .ok (.bool false) W := fun W => Lib.run_eql_slice_nil W _ _ (some ca) _ _ _ _ Try.underlying24
        have hmf : ∀ (fn : Fn) (first cap : Array Value) (w : World), (Instr.makeFunc fn first cap).run Try.prog w = .ok (.func fn first cap) w := fun _ _ _ _ => rfl
        have HX := hid (And.intro hf (And.intro hstr (And.intro hM (And.intro hSts (And.intro hdis (And.intro hv (And.intro hps (And.intro hS (And.intro hb1 (And.intro k5 k6))))))))))
        have HL := hid hownlt
        rw [hS'] at HSum
        clear hf hstr hM hSts hdis hv hps hS hb1 k5 k6 hM1 hSts1 hownlt hS'
        go_wp2_with (first
          | (go_at_call 16; refine (HSum.out _).mono ?_; rintro e w1 ⟨rfl, hw⟩; subst hw)
          | (go_at_call 17; refine HD.out.mono ?_; rintro e w2 ⟨v1, rfl, ho1, hg1, hvb, hsz2⟩; obtain ⟨b1, q1, rfl⟩ := own_slice ho1; have H2 := hid (And.intro ho1 (And.intro hg1 (And.intro hvb hsz2))); clear ho1 hg1 hvb hsz2))
        generalize hfs : (ps.filter fun p => !decide (p.2 = x)) = fs at *
        have hfl : fs.length ≤ ps.length := by rw [← hfs]; exact List.length_filter_le _ _
        have HFS := hid hfs
        clear hfs
        obtain ⟨hf, hstr, hM, hSts, hdis, hv, hps, hS, hb1, k5, k6⟩ := HX.out
        obtain ⟨ho1, hg1, hvb, hsz2⟩ := H2.out
        have hlr := hM.lt
        have hM1 := hM.on (hb1.block r hM.lt)
        have hne5 : some wr.heap.size ≠ (Value.slice va ps.length vc).ownBlock := fun e => Nat.lt_irrefl _ (HL.out _ e.symm)
        have hne6 : some (wr.heap.size + 1) ≠ (Value.slice va ps.length vc).ownBlock := fun e => by have := HL.out _ e.symm; omega
        have hner : some r ≠ (Value.slice va ps.length vc).ownBlock := fun e => by
          have h := (hSts S k).1
          rw [hv] at h
          obtain ⟨-, c', fz', h'⟩ := own_block h r e.symm
          obtain ⟨es, clock, hb', -⟩ := hM
          rw [hb'] at h'
          cases h'
        have k5' := (hg1.block wr.heap.size (lt_of_block k5) hne5).trans k5
        have k6' := (hg1.block (wr.heap.size + 1) (lt_of_block k6) hne6).trans k6
        have hM2 := hM1.on (hg1.block r hM1.lt hner)
        have c5' := (one_cellD k5').1
        obtain ⟨c60', c61', -, -⟩ := res_two k6'
        obtain ⟨i0, hi, hz0, hz1, hz2⟩ := info_parts Try.infoRowB
        have hbase2 : base ≤ w2.heap.size := by have := hr.out.2.2.size; omega
        have hnsz : wr.heap.size + 2 = w2.heap.size := by omega
        have hlr2 : r < w2.heap.size := by omega
        have hvb5 : some wr.heap.size ≠ (Value.slice b1 fs.length q1).ownBlock := by rw [hvb]; exact hne5
        have hvb6 : some (wr.heap.size + 1) ≠ (Value.slice b1 fs.length q1).ownBlock := by rw [hvb]; exact hne6
        have hvbr : some r ≠ (Value.slice b1 fs.length q1).ownBlock := by rw [hvb]; exact hner
        have HV := hid (And.intro hvb5 (And.intro hvb6 hvbr))
        have HY := hid (And.intro ho1 (And.intro hM2 (And.intro k5' k6')))
        have hre5 : wr.heap.size ≠ r := by omega
        have hre6 : wr.heap.size + 1 ≠ r := by omega
        clear hf hstr hM hSts hdis hv hps hS hb1 k5 k6 ho1 hg1 hM1 hM2 k5' k6' c5 c60 c61 HD hvb hne5 hne6 hner hvb5 hvb6 hvbr hsz2
        go_region_held3 (fun W => W.cell? ⟨wr.heap.size + 1, 0, none⟩ = some (.int .u32 S) ∧ W.cell? ⟨wr.heap.size + 1, 1, none⟩ = some (.int .i64 k) ∧ W.cell? ⟨wr.heap.size, 0, none⟩ = some (.slice (some ca) cn cc)) (go_keep) (first | (refine step_append_lies _ rfl (.tmp 26) (.tmp 28) 23 rfl base 24 i0 (.slice none 0 0) 1 24 Try.underlying23 hi hz0 hz1 hz2 rfl (by decide) (.slice b1 fs.length q1) fs.length (fs.map (·.1)) rfl (by exact HY.out.1.alloc _) ⟨w2.heap.size, 0, none⟩ 1 1 [.slice (some ca) cn cc] rfl rfl (World.news_of_block (cs := #[.slice (some ca) cn cc]) (by exact heap_alloc_new w2 _)) (by intro u hu; simp at hu; subst hu; rfl) (by decide) (by unfold maxLen; omega) (by omega) (by simp; omega) _ rfl ?_; intro g cap w3 ow3 gr3 hat hlt3; have j5 : w3.heap[wr.heap.size]? = some (.cells #[.slice (some ca) cn cc] 24 (0, 0)) := (gr3.block wr.heap.size (by simp; omega) HV.out.1).trans ((Below.heap_alloc w2 _ wr.heap.size (by omega)).trans HY.out.2.2.1); have j6 : w3.heap[wr.heap.size + 1]? = some (.cells #[.int .u32 S, .int .i64 k] 55 (0, 0)) := (gr3.block (wr.heap.size + 1) (by simp; omega) HV.out.2.1).trans ((Below.heap_alloc w2 _ (wr.heap.size + 1) (by omega)).trans HY.out.2.2.2); have hM3 : MapAt w3 r l := HY.out.2.1.on ((gr3.block r (by simp; omega) HV.out.2.2).trans (Below.heap_alloc w2 _ r hlr2)); obtain ⟨w4, hmu, hm4, hg4, hsz4⟩ := run_put hM3 S k (.slice (some ⟨g, 0, none⟩) (fs.length + 1) cap); unfold pk at hmu; have y5 := (one_cellD j5).1; obtain ⟨y60, y61, -, -⟩ := res_two j6; have z5 := (one_cellD ((hg4.block wr.heap.size (lt_of_block j5) (by intro e; injection e with e; exact hre5 e)).trans j5)).1; obtain ⟨z60, z61, -, -⟩ := res_two ((hg4.block (wr.heap.size + 1) (lt_of_block j6) (by intro e; injection e with e; exact hre6 e)).trans j6); have H4 := hid (And.intro ow3 (And.intro gr3 (And.intro hat (And.intro hm4 (And.intro hg4 hsz4))))); clear j5 j6 hM3 ow3 gr3 hat hm4 hg4 hsz4))
        go_wp2
        obtain ⟨hf, hstr, hM, hSts, hdis, hv, hps, hS, hb1, k5, k6⟩ := HX.out
        obtain ⟨ho1, hg1, hvb, hsz2⟩ := H2.out
        obtain ⟨ow3, gr3, hat, hm4, hg4, hsz4⟩ := H4.out
        have hownS : wr.ownsRow base 24 1 (valE S k l) (keepM M fo k S k).length ((keepM M fo k S k).map (·.1)) := (hSts S k).1
        have gA : wr.grownBy w2 (valE S k l).ownBlock := by
          rw [hv]
          exact ⟨hg1.os.trans hb1.os, hg1.tape.trans hb1.tape, hg1.output.trans hb1.output, Nat.le_trans hb1.size hg1.size, fun i hi hne => (hg1.block i (Nat.lt_of_lt_of_le hi hb1.size) hne).trans (hb1.block i hi)⟩
        have gB : w2.grownBy w3 (valE S k l).ownBlock := by
          rw [hv, ← hvb]
          exact grown_allocD gr3
        have e1 : keepM M fo (k + 1) = updM (keepM M fo k) S k (keepRow ps (.slice (some ca) cn cc) x) := by
          show (match fo k with | none => keepM M fo k | some (c, x) => updM (keepM M fo k) (Fr.val (Fr.last4 x)) k (keepRow (keepM M fo k (Fr.val (Fr.last4 x)) k) c x)) = _
          rw [hf]
          simp only []
          rw [hS, hps]
        have e2 : keepRow ps (.slice (some ca) cn cc) x = fs ++ [(.slice (some ca) cn cc, x)] := by
          unfold keepRow
          rw [HFS.out]
        have hown3 : w3.ownsRow base 24 1 (.slice (some ⟨g, 0, none⟩) (fs.length + 1) cap) (keepRow ps (.slice (some ca) cn cc) x).length ((keepRow ps (.slice (some ca) cn cc) x).map (·.1)) := by
          rw [e2]
          have l1 : (fs ++ [((.slice (some ca) cn cc : Value), x)]).length = fs.length + 1 := by simp
          have l2 : (fs ++ [((.slice (some ca) cn cc : Value), x)]).map (·.1) = fs.map (·.1) ++ [.slice (some ca) cn cc] := by simp
          rw [l1, l2]
          exact ow3
        have hall : ∀ p ∈ keepRow ps (.slice (some ca) cn cc) x, StAt wr p.1 p.2 := by
          intro p hp
          rw [e2] at hp
          rcases List.mem_append.1 hp with h | h
          · rw [← HFS.out] at h
            have := (hSts S k).2
            rw [hps] at this
            exact this p (List.mem_filter.1 h).1
          · obtain rfl := List.mem_singleton.1 h
            exact hstr
        have hnew : (Value.slice (some ⟨g, 0, none⟩) (fs.length + 1) cap).ownBlock = (valE S k l).ownBlock ∨ ∃ b, (Value.slice (some ⟨g, 0, none⟩) (fs.length + 1) cap).ownBlock = some b ∧ wr.heap.size ≤ b := by
          rcases hat with h | h
          · left
            rw [hv, ← hvb, h]
            rfl
          · right
            refine ⟨g, rfl, ?_⟩
            rw [h]
            simp
            omega
        have hKA := KeepAt.put hM hSts hdis gA gB hown3 hall hnew hm4 hg4
        have hbt : ∀ b, (valE S k l).ownBlock = some b → base ≤ b ∧ b < wr.heap.size ∧ ∃ c fz, wr.heap[b]? = some (.cells c 24 fz) := fun b hb => by
          obtain ⟨h1, c', fz', h'⟩ := own_block hownS b hb
          exact ⟨h1, lt_of_block h', c', fz', h'⟩
        have kA : KeepsT wr w2 := KeepsT.grown gA (fun b hb c t fz hc => by
          obtain ⟨-, -, c', fz', h'⟩ := hbt b hb
          rw [h'] at hc
          cases hc
          rfl)
        have kAB : KeepsT wr w3 := ⟨Nat.le_trans gA.size gB.size, fun i c t fz hi ht => by
          have hne : some i ≠ (valE S k l).ownBlock := fun e => by
            obtain ⟨-, -, c', fz', h'⟩ := hbt i e.symm
            rw [h'] at hi
            cases hi
            exact ht rfl
          exact (gB.block i (Nat.lt_of_lt_of_le (lt_of_block hi) gA.size) hne).trans (gA.block i (lt_of_block hi) hne)⟩
        have kC : KeepsT w3 w4 := KeepsT.grown hg4 (fun b hb c t fz hc => by
          injection hb with hb
          subst hb
          obtain ⟨es, clock, hbm, -⟩ := hM
          have : w3.heap[r]? = some (.map es clock) := by
            have h1 : some r ≠ (valE S k l).ownBlock := fun e => by
              obtain ⟨-, -, c', fz', h'⟩ := hbt r e.symm
              rw [hbm] at h'
              cases h'
            exact ((gB.block r (Nat.lt_of_lt_of_le (lt_of_block hbm) gA.size) h1).trans (gA.block r (lt_of_block hbm) h1)).trans hbm
          rw [this] at hc
          cases hc)
        have hbA : Below base wr w2 := (Below.refl base wr).grown gA (Nat.le_trans hbw hr.out.2.2.size) (fun b hb => (hbt b hb).1)
        have hbB : Below base wr w3 := hbA.grown gB (by have := hbA.size; have := hr.out.2.2.size; omega) (fun b hb => (hbt b hb).1)
        have hbC : Below base wr w4 := hbB.grown hg4 (by have := hbB.size; have := hr.out.2.2.size; omega) (fun b hb => by cases hb; exact hbr)
        exact ⟨⟨k + 1, by omega, by go_num, e1 ▸ hKA, hr.out.2.1.trans (kAB.trans kC), hr.out.2.2.trans hbC⟩, by simp [intOf]; omega⟩
    · obtain rfl : k = 5 := by omega
      go_wp2
      go_end0
      exact ⟨rfl, hr.out.1, hr.out.2.1, hr.out.2.2⟩

end Go.Proofs.Ytfldcmdhneegmaa
