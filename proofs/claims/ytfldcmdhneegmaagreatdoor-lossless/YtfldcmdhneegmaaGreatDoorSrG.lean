import Derived.Test.YtfldcmdhneegmaaGreatDoorSrF

/-
  slices' stable sort of runs.
-/
namespace Go.Proofs.YtfldcmdhneegmaaGreatDoor
open Go.RowKit Go.Lib

/-- Blocks of a length, each in order. -/
structure Blks (bs : Nat) (Bs : List (List RV)) : Prop where
  len : ∀ B ∈ Bs, B.length = bs
  srt : ∀ B ∈ Bs, Sm.Srt ltR B
theorem Blks.flat {bs : Nat} : ∀ {Bs : List (List RV)}, Blks bs Bs → Bs.flatten.length = Bs.length * bs
  | [], _ => by simp
  | B :: Bs, h => by
    have ih := Blks.flat (bs := bs) (Bs := Bs) ⟨fun B' h' => h.len B' (List.mem_cons_of_mem _ h'), fun B' h' => h.srt B' (List.mem_cons_of_mem _ h')⟩
    rw [List.flatten_cons, List.length_append, ih, h.len B List.mem_cons_self, List.length_cons, Nat.add_mul]
    omega
theorem Blks.more {bs : Nat} {Bs : List (List RV)} (h : Blks bs Bs) {M : List RV} (h1 : M.length = bs) (h2 : Sm.Srt ltR M) : Blks bs (Bs ++ [M]) :=
  ⟨fun B hB => by
    rcases List.mem_append.1 hB with hB | hB
    · exact h.len B hB
    · rw [List.mem_singleton.1 hB]; exact h1, fun B hB => by
    rcases List.mem_append.1 hB with hB | hB
    · exact h.srt B hB
    · rw [List.mem_singleton.1 hB]; exact h2⟩
theorem Blks.nil (bs : Nat) : Blks bs [] := ⟨fun _ h => (by cases h), fun _ h => (by cases h)⟩
theorem Blks.tail {bs : Nat} {B : List RV} {Bs : List (List RV)} (h : Blks bs (B :: Bs)) : Blks bs Bs := ⟨fun B' h' => h.len B' (List.mem_cons_of_mem _ h'), fun B' h' => h.srt B' (List.mem_cons_of_mem _ h')⟩

/-- The first loop: blocks so far, the rest as it was. -/
def Stab1 (base g ob cap : Nat) (L : List RV) (w wr : World) (a : Nat) : Prop := ∃ Bs R, Blks 20 Bs ∧ Bs.flatten.length = a ∧ (Bs.flatten ++ R).Perm L ∧ SAt base g ob wr cap (Bs.flatten ++ R) ∧ w.grownBy wr (some g)
/-- The second: blocks of a length and a shorter rest, all in order. -/
def Stab2 (base g ob cap : Nat) (L : List RV) (w wr : World) (bs : Nat) : Prop := ∃ Bs R, Blks bs Bs ∧ Sm.Srt ltR R ∧ R.length < bs ∧ (Bs.flatten ++ R).Perm L ∧ SAt base g ob wr cap (Bs.flatten ++ R) ∧ w.grownBy wr (some g)
/-- .. and within it: some merged already. -/
def Stab3 (base g ob cap : Nat) (L : List RV) (w wr : World) (bs a : Nat) : Prop := ∃ Cs Bs R, Blks (2 * bs) Cs ∧ Blks bs Bs ∧ Sm.Srt ltR R ∧ R.length < bs ∧ Cs.flatten.length = a ∧ (Cs.flatten ++ (Bs.flatten ++ R)).Perm L ∧ SAt base g ob wr cap (Cs.flatten ++ (Bs.flatten ++ R)) ∧ w.grownBy wr (some g)
def StabEnd (base g ob cap : Nat) (L : List RV) (w : World) (e : Ending) (w' : World) : Prop :=
  e = .returned (.tuple #[]) ∧ ∃ M, M.Perm L ∧ Sm.Srt ltR M ∧ SAt base g ob w' cap M ∧ w.grownBy w' (some g)

section
variable {base g ob cap : Nat} {L : List RV} {w wr : World}
theorem Stab1.start (h : SAt base g ob w cap L) : Stab1 base g ob cap L w w 0 := ⟨[], L, Blks.nil _, rfl, List.Perm.refl _, h, grown_refl _ _⟩
theorem Stab1.one {a n : Nat} (h : Stab1 base g ob cap L w wr a) (hL : L.length = n) (hn : n ≤ 1000000) (hb : a + 20 ≤ n) :
    Calls Tryz.prog 257 #[.slice (some ⟨g, 0, none⟩) n cap, .int .i64 a, .int .i64 (a + 20 : Nat), .func (.func 254) #[] #[.pointer (some ⟨ob, 0, none⟩)]] wr fun e w' => e = .returned (.tuple #[]) ∧ Stab1 base g ob cap L w w' (a + 20) := by
  obtain ⟨Bs, R, h1, h2, h3, h4, h5⟩ := h
  have hl := h3.length_eq
  rw [List.length_append] at hl
  have e0 : Bs.flatten ++ R = Bs.flatten ++ R.take 20 ++ R.drop 20 := by rw [List.append_assoc, List.take_append_drop]
  have hlen : (Bs.flatten ++ R.take 20 ++ R.drop 20).length = n := by rw [← e0, List.length_append]; omega
  have ht : (R.take 20).length = 20 := by rw [List.length_take]; omega
  rw [e0] at h4
  have key := insertR_any base g ob cap Bs.flatten (R.take 20) (R.drop 20) wr h4 (by omega)
  rw [hlen, h2, ht] at key
  refine key.mono ?_
  rintro e w' ⟨he, M, p1, q1, s1, g1⟩
  refine ⟨he, Bs ++ [M], R.drop 20, h1.more (by rw [p1.length_eq, ht]) q1, ?_, ?_, ?_, grown_trans h5 g1⟩
  · rw [List.flatten_append, List.length_append, h2]; simp [p1.length_eq, ht]
  · refine List.Perm.trans ?_ h3
    rw [e0]
    simp only [List.flatten_append, List.flatten_cons, List.flatten_nil, List.append_nil]
    exact (p1.append_left _).append_right _
  · simpa using s1
theorem Stab1.last {a n : Nat} (h : Stab1 base g ob cap L w wr a) (hL : L.length = n) (hn : n ≤ 1000000) (hb : n < a + 20) :
    Calls Tryz.prog 257 #[.slice (some ⟨g, 0, none⟩) n cap, .int .i64 a, .int .i64 n, .func (.func 254) #[] #[.pointer (some ⟨ob, 0, none⟩)]] wr fun e w' => e = .returned (.tuple #[]) ∧ Stab2 base g ob cap L w w' 20 := by
  obtain ⟨Bs, R, h1, h2, h3, h4, h5⟩ := h
  have hl := h3.length_eq
  rw [List.length_append] at hl
  have e0 : Bs.flatten ++ R = Bs.flatten ++ R ++ [] := by simp
  have hlen : (Bs.flatten ++ R ++ []).length = n := by rw [← e0, List.length_append]; omega
  have hr : a + R.length = n := by omega
  rw [e0] at h4
  have key := insertR_any base g ob cap Bs.flatten R [] wr h4 (by omega)
  rw [hlen, h2, hr] at key
  refine key.mono ?_
  rintro e w' ⟨he, M, p1, q1, s1, g1⟩
  refine ⟨he, Bs, M, h1, q1, by rw [p1.length_eq]; omega, (p1.append_left _).trans h3, by simpa using s1, grown_trans h5 g1⟩
theorem Stab2.start {bs : Nat} (h : Stab2 base g ob cap L w wr bs) : Stab3 base g ob cap L w wr bs 0 := by
  obtain ⟨Bs, R, h1, h2, h3, h4, h5, h6⟩ := h
  exact ⟨[], Bs, R, Blks.nil _, h1, h2, h3, rfl, by simpa using h4, by simpa using h5, h6⟩
theorem Stab3.two {bs a n : Nat} (h : Stab3 base g ob cap L w wr bs a) (h0 : 0 < bs) (hL : L.length = n) (hn : n ≤ 1000000) (hb : a + 2 * bs ≤ n) (m b : Nat) (hm : m = a + bs) (hb' : b = a + 2 * bs) :
    Calls Tryz.prog 258 #[.slice (some ⟨g, 0, none⟩) n cap, .int .i64 a, .int .i64 m, .int .i64 b, .func (.func 254) #[] #[.pointer (some ⟨ob, 0, none⟩)]] wr fun e w' => e = .returned (.tuple #[]) ∧ Stab3 base g ob cap L w w' bs (a + 2 * bs) := by
  obtain ⟨Cs, Bs, R, h1, h2, h3, h4, h5, h6, h7, h8⟩ := h
  have hl := h6.length_eq
  rw [List.length_append, List.length_append, h2.flat, h5] at hl
  have hB : ∃ B1 B2 Bs', Bs = B1 :: B2 :: Bs' := by
    match Bs, hl with
    | [], hl => simp at hl; omega
    | [B], hl => simp at hl; omega
    | B1 :: B2 :: Bs', _ => exact ⟨B1, B2, Bs', rfl⟩
  obtain ⟨B1, B2, Bs', rfl⟩ := hB
  have l1 := h2.len B1 (by simp)
  have l2 := h2.len B2 (by simp)
  have e0 : Cs.flatten ++ ((B1 :: B2 :: Bs').flatten ++ R) = Cs.flatten ++ B1 ++ B2 ++ (Bs'.flatten ++ R) := by simp
  have hlen : (Cs.flatten ++ B1 ++ B2 ++ (Bs'.flatten ++ R)).length = n := by rw [← e0, h6.length_eq, hL]
  rw [e0] at h7
  refine (symR_any base g ob cap _ Cs.flatten B1 B2 (Bs'.flatten ++ R) wr h7 (Nat.le_refl _) (by omega) (by omega) (h2.srt B1 (by simp)) (h2.srt B2 (by simp)) n a m b hlen hn h5 (by omega) (by omega)).mono ?_
  rintro e w' ⟨he, M, p1, q1, s1, g1⟩
  have hM : M.length = 2 * bs := by rw [p1.length_eq, List.length_append]; omega
  refine ⟨he, Cs ++ [M], Bs', R, h1.more hM q1, h2.tail.tail, h3, h4, ?_, ?_, by simpa using s1, grown_trans h8 g1⟩
  · rw [List.flatten_append, List.length_append, h5]; simp [hM]
  · refine List.Perm.trans ?_ h6
    rw [e0]
    simp only [List.flatten_append, List.flatten_cons, List.flatten_nil, List.append_nil]
    rw [List.append_assoc Cs.flatten B1 B2]
    exact (p1.append_left _).append_right _
theorem Stab3.end1 {bs a n : Nat} (h : Stab3 base g ob cap L w wr bs a) (h0 : 0 < bs) (hL : L.length = n) (hn : n ≤ 1000000) (hb : n < a + 2 * bs) (hb2 : a + bs < n) (m : Nat) (hm : m = a + bs) :
    Calls Tryz.prog 258 #[.slice (some ⟨g, 0, none⟩) n cap, .int .i64 a, .int .i64 m, .int .i64 n, .func (.func 254) #[] #[.pointer (some ⟨ob, 0, none⟩)]] wr fun e w' => e = .returned (.tuple #[]) ∧ Stab2 base g ob cap L w w' (2 * bs) := by
  obtain ⟨Cs, Bs, R, h1, h2, h3, h4, h5, h6, h7, h8⟩ := h
  have hl := h6.length_eq
  rw [List.length_append, List.length_append, h2.flat, h5] at hl
  have hB : ∃ B, Bs = [B] := by
    match Bs, hl with
    | [], hl => simp at hl; omega
    | [B], _ => exact ⟨B, rfl⟩
    | B1 :: B2 :: Bs', hl =>
      exfalso
      have : (B1 :: B2 :: Bs').length * bs = Bs'.length * bs + 2 * bs := by rw [List.length_cons, List.length_cons, Nat.add_mul, Nat.add_mul]; omega
      rw [this] at hl
      omega
  obtain ⟨B, rfl⟩ := hB
  have l1 := h2.len B (by simp)
  simp at hl
  have e0 : Cs.flatten ++ ([B].flatten ++ R) = Cs.flatten ++ B ++ R ++ [] := by simp
  have hlen : (Cs.flatten ++ B ++ R ++ []).length = n := by rw [← e0, h6.length_eq, hL]
  rw [e0] at h7
  refine (symR_any base g ob cap _ Cs.flatten B R [] wr h7 (Nat.le_refl _) (by omega) (by omega) (h2.srt B (by simp)) h3 n a m n hlen hn h5 (by omega) (by omega)).mono ?_
  rintro e w' ⟨he, M, p1, q1, s1, g1⟩
  have hM := p1.length_eq
  rw [List.length_append] at hM
  refine ⟨he, Cs, M, h1, q1, by omega, ?_, by simpa using s1, grown_trans h8 g1⟩
  refine List.Perm.trans ?_ h6
  simp only [List.flatten_cons, List.flatten_nil, List.append_nil]
  exact p1.append_left _
theorem Stab3.end2 {bs a n : Nat} (h : Stab3 base g ob cap L w wr bs a) (h0 : 0 < bs) (hL : L.length = n) (hb2 : n ≤ a + bs) : Stab2 base g ob cap L w wr (2 * bs) := by
  obtain ⟨Cs, Bs, R, h1, h2, h3, h4, h5, h6, h7, h8⟩ := h
  have hl := h6.length_eq
  rw [List.length_append, List.length_append, h2.flat, h5] at hl
  have hB : Sm.Srt ltR (Bs.flatten ++ R) ∧ (Bs.flatten ++ R).length < 2 * bs := by
    match Bs, hl, h2 with
    | [], _, _ => exact ⟨by simpa using h3, by simp; omega⟩
    | [B], hl, h2 =>
      simp at hl
      obtain rfl : R = [] := List.eq_nil_of_length_eq_zero (by omega)
      have := h2.len B (by simp)
      exact ⟨by simpa using h2.srt B (by simp), by simp; omega⟩
    | B1 :: B2 :: Bs', hl, _ =>
      exfalso
      have : (B1 :: B2 :: Bs').length * bs = Bs'.length * bs + 2 * bs := by rw [List.length_cons, List.length_cons, Nat.add_mul, Nat.add_mul]; omega
      rw [this] at hl
      omega
  exact ⟨Cs, Bs.flatten ++ R, h1, hB.1, hB.2, h6, h7, h8⟩
theorem Stab2.fin {bs n : Nat} (h : Stab2 base g ob cap L w wr bs) (hL : L.length = n) (hb : n ≤ bs) : StabEnd base g ob cap L w (.returned (.tuple #[])) wr := by
  obtain ⟨Bs, R, h1, h2, h3, h4, h5, h6⟩ := h
  have hl := h4.length_eq
  rw [List.length_append, h1.flat] at hl
  have hB : Sm.Srt ltR (Bs.flatten ++ R) := by
    match Bs, hl, h1 with
    | [], _, _ => simpa using h2
    | [B], hl, h1 =>
      simp at hl
      obtain rfl : R = [] := List.eq_nil_of_length_eq_zero (by omega)
      simpa using h1.srt B (by simp)
    | B1 :: B2 :: Bs', hl, _ =>
      exfalso
      have : (B1 :: B2 :: Bs').length * bs = Bs'.length * bs + 2 * bs := by rw [List.length_cons, List.length_cons, Nat.add_mul, Nat.add_mul]; omega
      rw [this] at hl
      omega
  exact ⟨rfl, _, h4, hB, h5, h6⟩
end

set_option maxHeartbeats 4000000 in
set_option maxRecDepth 1000000 in
theorem stableR_any (base g ob cap : Nat) (L : List RV) (w : World) (h : SAt base g ob w cap L) (n : Nat) (hL : L.length = n) (hn : n ≤ 1000000) :
    Calls Tryz.prog 225 #[.slice (some ⟨g, 0, none⟩) n cap, .int .i64 n, .func (.func 254) #[] #[.pointer (some ⟨ob, 0, none⟩)]] w (StabEnd base g ob cap L w) := by
  have HS := hid (And.intro (Stab1.start h) hL)
  clear h hL
  go_enter Tryz.func225, Tryz.ntmps225
  go_wp2
  go_loopw [7, 8] (fun va vb wr => ∃ a : Nat, a ≤ n ∧ va = .int .i64 a ∧ vb = .int .i64 (a + 20 : Nat) ∧ Hid (Stab1 base g ob cap L w wr a)) (fun va _ _ => n - (intOf va).toNat)
  case atStart => exact ⟨0, by omega, rfl, by go_num, HS.out.1⟩
  case round =>
    obtain ⟨a, han, rfl, rfl, hr⟩ := hrel
    have ea : ((a + 20 : Nat) : Int) = (a : Int) + 20 := by omega
    by_cases hb : a + 20 ≤ n
    · have hb' : (a : Int) + 20 ≤ (n : Int) := by omega
      rw [ea]
      go_wp2_with (go_at_call 257; rw [← ea]; refine (hr.out.one HS.out.2 hn hb).mono ?_; rintro e w1 ⟨rfl, h1⟩; have H1 := hid h1; clear h1; rw [ea])
      exact ⟨⟨a + 20, hb, by go_num, by go_num, H1.out⟩, by simp [intOf]; omega⟩
    · have hb' : decide ((a : Int) + 20 ≤ (n : Int)) = false := decide_eq_false (by omega)
      rw [ea]
      go_wp2_with (go_at_call 257; refine (hr.out.last HS.out.2 hn (by omega)).mono ?_; rintro e w1 ⟨rfl, h1⟩; have H1 := hid h1; clear h1)
      clear hb hb' ea
      go_loopw [6] (fun vs wr => ∃ bs : Nat, 0 < bs ∧ bs ≤ 2 * n + 20 ∧ vs = .int .i64 bs ∧ Hid (Stab2 base g ob cap L w wr bs)) (fun vs _ => 2 * n + 20 - (intOf vs).toNat)
      case atStart => exact ⟨20, by omega, by omega, rfl, H1.out⟩
      case round =>
        obtain ⟨bs, h0, hbs, rfl, hr2⟩ := hrel
        by_cases hc : bs < n
        · have hc' : (bs : Int) < (n : Int) := by omega
          go_wp2
          go_loopw [7, 8] (fun va vb wr => ∃ a : Nat, a ≤ n ∧ va = .int .i64 a ∧ vb = .int .i64 (a + 2 * bs : Nat) ∧ Hid (Stab3 base g ob cap L w wr bs a)) (fun va _ _ => n - (intOf va).toNat)
          case atStart => exact ⟨0, by omega, rfl, by go_num, hr2.out.start⟩
          case round =>
            obtain ⟨a', han', rfl, rfl, hr3⟩ := hrel
            have ea : ((a' + 2 * bs : Nat) : Int) = (a' : Int) + 2 * (bs : Int) := by omega
            have em : ((a' + bs : Nat) : Int) = (a' : Int) + (bs : Int) := by omega
            by_cases hb : a' + 2 * bs ≤ n
            · have hb' : (a' : Int) + 2 * (bs : Int) ≤ (n : Int) := by omega
              rw [ea]
              go_wp2_with (go_at_call 258; rw [← ea, ← em]; refine (hr3.out.two h0 HS.out.2 hn hb _ _ rfl rfl).mono ?_; rintro e w1 ⟨rfl, h1⟩; have H2 := hid h1; clear h1; rw [ea])
              exact ⟨⟨a' + 2 * bs, hb, by go_num, by go_num, H2.out⟩, by simp [intOf]; omega⟩
            · have hb' : decide ((a' : Int) + 2 * (bs : Int) ≤ (n : Int)) = false := decide_eq_false (by omega)
              rw [ea]
              by_cases hm : a' + bs < n
              · have hm' : (a' : Int) + (bs : Int) < (n : Int) := by omega
                go_wp2_with (go_at_call 258; rw [← em]; refine (hr3.out.end1 h0 HS.out.2 hn (by omega) hm _ rfl).mono ?_; rintro e w1 ⟨rfl, h1⟩; have H2 := hid h1; clear h1; rw [em])
                exact ⟨⟨2 * bs, by omega, by omega, by go_num, H2.out⟩, by simp [intOf]; omega⟩
              · have hm' : decide ((a' : Int) + (bs : Int) < (n : Int)) = false := decide_eq_false (by omega)
                go_wp2
                exact ⟨⟨2 * bs, by omega, by omega, by go_num, hr3.out.end2 h0 HS.out.2 (by omega)⟩, by simp [intOf]; omega⟩
        · have hc' : decide ((bs : Int) < (n : Int)) = false := decide_eq_false (by omega)
          go_wp2
          go_end0
          exact hr2.out.fin HS.out.2 (by omega)

theorem sortStableR_any (base g ob cap : Nat) (L : List RV) (w : World) (h : SAt base g ob w cap L) (n : Nat) (hL : L.length = n) (hn : n ≤ 1000000) :
    Calls Tryz.prog 173 #[.slice (some ⟨g, 0, none⟩) n cap, .func (.func 254) #[] #[.pointer (some ⟨ob, 0, none⟩)]] w (StabEnd base g ob cap L w) := by
  go_enter Tryz.func173, Tryz.ntmps173
  have HS := hid (And.intro h hL)
  clear h hL
  go_wp2_with (go_at_call 225; refine (stableR_any base g ob cap L _ HS.out.1 n HS.out.2 hn).mono ?_; rintro e w1 ⟨rfl, h1⟩; have H1 := hid h1; clear h1)
  go_end0
  exact ⟨rfl, H1.out⟩

end Go.Proofs.YtfldcmdhneegmaaGreatDoor
