import Derived.Test.YtfldcmdhneegmaaGreatDoorZ25
import Derived.Test.YtfldcmdhneegmaaGreatDoorZ09
import Derived.Test.YtfldcmdhneegmaaGreatDoorZ42
import Derived.Maps.AppendAt

/-
  PLAIN, for Goes: 'a b / n' has few runs; one Advance or several.
-/
namespace Go.Proofs.YtfldcmdhneegmaaGreatDoor
namespace En

def abP (win : Int) : Pat := { steps := [(97, false), (98, false)], win := win }
theorem ab_news (win : Int) (A : List Rn) (ev : Ev) : (news (abP win) A ev 0).length ≤ 1 := by
  unfold news
  split
  · simp
  · have h : (A.filter fun q => decide (q.step + 1 = 0) || (decide (q.step = 0) && plusAt (abP win) 0)) = [] := by
      rw [List.filter_eq_nil_iff]
      intro q _
      simp [plusAt, abP]
    rw [h]
    simp [longer, puts]
theorem ab_next (win : Int) (A : List Rn) (ev : Ev) : (next (abP win) A ev).length ≤ A.length + 1 := by
  have h0 : next (abP win) A ev = puts (A.filter fun r => decide (far ev.time r.first ≤ (abP win).win)) (news (abP win) A ev 0) := rfl
  rw [h0]
  have h1 := puts_le (A.filter fun r => decide (far ev.time r.first ≤ (abP win).win)) (news (abP win) A ev 0)
  have h2 := ab_news win A ev
  have h3 := List.length_filter_le (fun r => decide (far ev.time r.first ≤ (abP win).win)) A
  omega
theorem ab_adv (win : Int) (l : List Ev) : ∀ A : List Rn, A.length + l.length ≤ 24 → ∃ m B, advInc (abP win) A l = some (m, B) ∧ B.length ≤ A.length + l.length := by
  induction l with
  | nil => exact fun A _ => ⟨[], A, rfl, by simp⟩
  | cons ev t ih =>
    intro A h
    have h1 := ab_next win A ev
    simp only [List.length_cons] at h ⊢
    obtain ⟨m, B, h2, h3⟩ := ih (next (abP win) A ev) (by omega)
    refine ⟨((news (abP win) A ev ((abP win).steps.length - 1)).map fun r => (r.offs, ev.time)) ++ m, B, ?_, by omega⟩
    conv => lhs; unfold advInc
    rw [if_neg (by omega), h2]
/-- Where the runs begin, behind an Advance. -/
theorem Pw.first {P : Pat} {W Next : Int} {Q : List Ev} {B : List Rn} {K : Nat} {T : Int → Int} (h : Pw P W Next Q B K T) (t : Int) (hW : W ≤ t) {m : List (List Int × Int)} {B' : List Rn} (ha : advInc P B ((sortEv Q).filter fun e => decide (e.time ≤ t)) = some (m, B')) :
    ∀ r ∈ B', -9223372036854775808 ≤ r.first ∧ r.first ≤ t := by
  have C := h.ctx t T (fun _ _ => rfl)
  have hc := cover_start (P := P) (old := B) (ψ := T) (h.det T (fun _ _ => rfl)) h.ord (fun r hr => (h.lo r hr).1) h.go
  have hle : ∀ d ∈ (sortEv Q).filter (fun e => decide (e.time ≤ t)), d.time ≤ t := fun d hd => of_decide_eq_true (List.mem_filter.1 hd).2
  rcases adv_eq _ [] B C h.go hc with ⟨-, h2⟩ | ⟨m', B'', -, h2, hC⟩
  · rw [h2] at ha; cases ha
  · rw [h2] at ha
    injection ha with ha
    injection ha with _ ha
    subst ha
    intro r hr
    refine ⟨hC.lo r hr, ?_⟩
    rcases hC.sub r hr with h3 | ⟨j, hj, h3⟩
    · have := (h.lo r h3).2
      omega
    · have hd := List.getElem?_eq_getElem hj
      have h4 := (good_ends C r.step j _ hd r h3).hi
      have h5 := hle (([] ++ (sortEv Q).filter fun e => decide (e.time ≤ t))[j]) (List.getElem_mem hj)
      omega
/-- All that wait, in their order, are those up to a moment and those behind it. -/
theorem ord_split {l : List Ev} (h : InOrd l) (t : Int) : l = (l.filter fun e => decide (e.time ≤ t)) ++ l.filter fun e => decide (t < e.time) := by
  induction l with
  | nil => rfl
  | cons x r ih =>
    by_cases hx : x.time ≤ t
    · rw [List.filter_cons_of_pos (by simpa using hx), List.filter_cons_of_neg (by simp; omega), List.cons_append, ← ih h.2]
    · have hall : ∀ y ∈ r, t < y.time := fun y hy => by
        have h1 := h.1 y hy
        rw [evLe_iff] at h1
        omega
      have h0 : r.filter (fun e => decide (e.time ≤ t)) = [] := by
        rw [List.filter_eq_nil_iff]
        intro y hy
        have := hall y hy
        simp
        omega
      have h1 : r.filter (fun e => decide (t < e.time)) = r := by
        rw [List.filter_eq_self]
        intro y hy
        simpa using hall y hy
      rw [List.filter_cons_of_neg (by simpa using hx), List.filter_cons_of_pos (by simp; omega), h0, h1]
      rfl
/-- An Advance on the way: what is to come, and how many there are. -/
theorem ab_step {win W Next t : Int} {R : List Ev} {B B' : List Rn} {K : Nat} {T : Int → Int} {rest m : List (List Int × Int)} (h : Pw (abP win) W Next R B K T) (hW : W ≤ t) (hl : B.length + R.length ≤ 12) (hr : (advInc (abP win) B (sortEv R)).map Prod.fst = some rest)
    (ha : advInc (abP win) B ((sortEv R).filter fun e => decide (e.time ≤ t)) = some (m, B')) :
    ∃ rest', m ++ rest' = rest ∧ (advInc (abP win) (B'.filter (lastsP (abP win).win t)) (sortEv ((sortEv R).filter fun e => decide (t < e.time)))).map Prod.fst = some rest' ∧ (B'.filter (lastsP (abP win).win t)).length + ((sortEv R).filter fun e => decide (t < e.time)).length ≤ 12 := by
  have hsp := ord_split (sortEv_ord R) t
  have hlen := congrArg List.length hsp
  rw [List.length_append, (sortEv_perm R).length_eq] at hlen
  have hso : sortEv ((sortEv R).filter fun e => decide (t < e.time)) = (sortEv R).filter fun e => decide (t < e.time) := sortEv_of_ord (InOrd.filter _ (sortEv_ord R)) (List.Nodup.sublist (List.Sublist.map _ (List.filter_sublist)) (h.apt.perm (sortEv_perm R)))
  rw [hso]
  obtain ⟨m1, B1, h1, h2⟩ := ab_adv win ((sortEv R).filter fun e => decide (e.time ≤ t)) B (by omega)
  rw [ha] at h1
  injection h1 with h1
  injection h1 with e1 e2
  subst e1
  subst e2
  have hf : (B'.filter (lastsP (abP win).win t)).length ≤ B'.length := List.length_filter_le _ _
  obtain ⟨m2, B2, h3, h4⟩ := ab_adv win ((sortEv R).filter fun e => decide (t < e.time)) B' (by omega)
  have hla : (B'.filter (lastsP (abP win).win t)) = B'.filter (lasting (abP win) t) := rfl
  have h5 := advInc_lasting (abP win) t B' ((sortEv R).filter fun e => decide (t < e.time)) (h.first t hW ha) (fun e he => by
    obtain ⟨he1, he2⟩ := List.mem_filter.1 he
    exact ⟨of_decide_eq_true he2, (h.evs e ((sortEv_perm R).mem_iff.1 he1)).2.1⟩)
  rw [h3] at h5
  refine ⟨m2, ?_, by rw [hla, h5]; rfl, by omega⟩
  rw [hsp, advInc_append, ha] at hr
  simp only [h3] at hr
  simpa using hr
/-- Every one that waits is taken. -/
theorem ab_last {win t : Int} {R : List Ev} {B B' : List Rn} {rest m : List (List Int × Int)} (ht : ∀ e ∈ R, e.time ≤ t) (hr : (advInc (abP win) B (sortEv R)).map Prod.fst = some rest)
    (ha : advInc (abP win) B ((sortEv R).filter fun e => decide (e.time ≤ t)) = some (m, B')) : m = rest := by
  have h0 : ((sortEv R).filter fun e => decide (e.time ≤ t)) = sortEv R := by
    rw [List.filter_eq_self]
    intro y hy
    simpa using ht y ((sortEv_perm R).mem_iff.1 hy)
  rw [h0] at ha
  rw [ha] at hr
  simpa using hr
/-- What comes in. -/
theorem ab_feed {win W Next : Int} {R : List Ev} {kind time : Int} (hk : kind = 97 ∨ kind = 98) (ht : W < time) (hl : R.length < 12) : feed (abP win) W Next R kind time = ((Next, 0), Next + 1, R ++ [⟨Next, kind, time⟩]) := by
  have hh : has (abP win) kind = true := by
    rcases hk with rfl | rfl <;> rfl
  unfold feed
  rw [if_neg (by omega), if_neg (fun h => by omega), hh]
  rfl
end En
end Go.Proofs.YtfldcmdhneegmaaGreatDoor

/-
  One engine of the program in memory, as the laws hold it: Feed, Advance.
-/
namespace Go.Proofs.YtfldcmdhneegmaaGreatDoor
open Go.RowKit Go.Lib

structure GEn (F : Nat → Prop) (w : World) (sb eb : Nat) (P : En.Pat) (W Next : Int) (vs vq vr : Value) (Q R : List En.Ev) (A : List RV) (K : Nat) (T : Int → Int) : Prop where
  sblk : w.heap[sb]? = some (.cells #[.pointer (some ⟨eb, 0, none⟩)] 74 (0, 0))
  pe : PEng F w eb P W Next vs vq vr Q A
  hp : En.Hp Q Q.length
  perm : Q.Perm R
  pw : En.Pw P W Next R (A.map Prod.fst) K T
  lt : ∀ b, F b → b < w.heap.size
  ns : ¬ F sb

/-- An engine: its blocks are G's. -/
def GAt (G : Nat → Prop) (w : World) (sb eb : Nat) (P : En.Pat) (W Next : Int) (R : List En.Ev) (B : List En.Rn) (K : Nat) (T : Int → Int) : Prop :=
  ∃ (F : Nat → Prop) (vs vq vr : Value) (Q : List En.Ev) (A : List RV), GEn F w sb eb P W Next vs vq vr Q R A K T ∧ A.map Prod.fst = B ∧ ∀ b, G b ↔ F b ∨ b = sb

section
variable {G : Nat → Prop} {w w' : World} {sb eb : Nat} {P : En.Pat} {W Next : Int} {R : List En.Ev} {B : List En.Rn} {K : Nat} {T : Int → Int}
theorem GAt.pw (h : GAt G w sb eb P W Next R B K T) : En.Pw P W Next R B K T := by
  obtain ⟨F, vs, vq, vr, Q, A, h1, rfl, h3⟩ := h
  exact h1.pw
theorem GAt.glt (h : GAt G w sb eb P W Next R B K T) : ∀ b, G b → b < w.heap.size := by
  obtain ⟨F, vs, vq, vr, Q, A, h1, h2, h3⟩ := h
  intro b hb
  rcases (h3 b).1 hb with hb | rfl
  · exact h1.lt b hb
  · exact lt_of_block h1.sblk
theorem GAt.in2 (h : GAt G w sb eb P W Next R B K T) : G sb ∧ G eb ∧ sb ≠ eb := by
  obtain ⟨F, vs, vq, vr, Q, A, h1, h2, h3⟩ := h
  exact ⟨(h3 sb).2 (Or.inr rfl), (h3 eb).2 (Or.inl h1.pe.self), fun e => h1.ns (by rw [e]; exact h1.pe.self)⟩
theorem GAt.eng (h : GAt G w sb eb P W Next R B K T) : ∃ c fz, w.heap[eb]? = some (.cells c 159 fz) := by
  obtain ⟨F, vs, vq, vr, Q, A, h1, h2, h3⟩ := h
  exact ⟨_, _, h1.pe.blk⟩
theorem GAt.frame (h : GAt G w sb eb P W Next R B K T) (hs : w.heap.size ≤ w'.heap.size) (hb : ∀ b, G b → w'.heap[b]? = w.heap[b]?) : GAt G w' sb eb P W Next R B K T := by
  obtain ⟨F, vs, vq, vr, Q, A, h1, h2, h3⟩ := h
  exact ⟨F, vs, vq, vr, Q, A, ⟨(hb sb ((h3 sb).2 (Or.inr rfl))).trans h1.sblk, h1.pe.frame hs (fun b _ hF => hb b ((h3 b).2 (Or.inl hF))), h1.hp, h1.perm, h1.pw, fun b hF => Nat.lt_of_lt_of_le (h1.lt b hF) hs, h1.ns⟩, h2, h3⟩
theorem GAt.below (h : GAt G w sb eb P W Next R B K T) (hb : Below w.heap.size w w') : GAt G w' sb eb P W Next R B K T := h.frame hb.size (fun b hG => hb.block b (h.glt b hG))
end

/-- What Feed leaves of an engine. -/
def GFed (G : Nat → Prop) (sb eb : Nat) (P : En.Pat) (W Next : Int) (R : List En.Ev) (B : List En.Rn) (K : Nat) (T : Int → Int) (kind time : Int) (w w' : World) : Prop :=
  ∃ G', GAt G' w' sb eb P W (En.feed P W Next R kind time).2.1 (En.feed P W Next R kind time).2.2 B K (En.upd T Next time) ∧ (∀ b, G' b → G b ∨ w.heap.size ≤ b) ∧ (∀ b, G b → G' b) ∧ Moved G w w'
theorem gFeed (G : Nat → Prop) (sb eb : Nat) (P : En.Pat) (W Next kind time : Int) (R : List En.Ev) (B : List En.Rn) (K : Nat) (T : Int → Int) (w : World) (h : GAt G w sb eb P W Next R B K T) (hN : Next ≤ 9007199254740992) (ht : time ≤ 9223372036854775807) (hE : ErrType w) (hG : ¬ G 4) :
    Calls Tryz.prog 26 #[.pointer (some ⟨sb, 0, none⟩), .agg #[.int .i32 kind, .int .i64 time]] w fun e w' => e = .returned (.tuple #[.int .i64 (En.feed P W Next R kind time).1.1, .int .i64 (En.feed P W Next R kind time).1.2]) ∧ GFed G sb eb P W Next R B K T kind time w w' := by
  obtain ⟨F, vs, vq, vr, Q, A, h1, rfl, h3⟩ := h
  obtain ⟨f1, f2, f3⟩ := En.feed_perm P W Next h1.perm kind time
  refine (sFeed_any F sb eb P W Next kind time vs vq vr Q A w h1.sblk h1.pe h1.lt h1.ns (fun hF => hG ((h3 _).2 (Or.inl hF))) (by have := h1.pw.s4; omega) h1.pw.n0 hN h1.hp hE).mono ?_
  rintro e w' ⟨rfl, vq', Q', hq', hp', hPE, os1, ta1, ou1, hs, fr⟩
  obtain ⟨q1, q2, q3⟩ := h1.pw.fed kind time ht
  have lsb := lt_of_block h1.sblk
  have fr' : ∀ b, b < w.heap.size → ¬ F b → w'.heap[b]? = w.heap[b]? := fun b hlt hF => fr b hlt (fun e => hF (by rw [e]; exact h1.pe.self)) (fun e => hF (h1.pe.wself b e.symm))
  refine ⟨by rw [f1], fun b => (newF F w.heap.size (.slice none 0 0) [] b ∧ b < w'.heap.size) ∨ b = sb, ⟨fun b => newF F w.heap.size (.slice none 0 0) [] b ∧ b < w'.heap.size, vs, vq', vr, Q', A, ⟨(fr' sb lsb h1.ns).trans h1.sblk, ?_, hp', hq'.trans f3, q1, fun b hb => hb.2, ?_⟩, rfl, fun b => Iff.rfl⟩, ?_, ?_, ?_⟩
  · rw [f2] at hPE
    exact hPE.mono (fun b hb hF => ⟨hF, hb⟩)
  · rintro ⟨hb | ⟨hb, -⟩, -⟩
    · exact h1.ns hb
    · omega
  · rintro b (⟨hb | ⟨hb, -⟩, -⟩ | rfl)
    · exact Or.inl ((h3 b).2 (Or.inl hb))
    · exact Or.inr hb
    · exact Or.inl ((h3 b).2 (Or.inr rfl))
  · intro b hb
    rcases (h3 b).1 hb with hb | hb
    · exact Or.inl ⟨Or.inl hb, Nat.lt_of_lt_of_le (h1.lt b hb) hs⟩
    · exact Or.inr hb
  · exact ⟨os1, ta1, ou1, hs, fun k hk hn => fr' k hk (fun hF => hn ((h3 k).2 (Or.inl hF)))⟩

/-- What a good Advance leaves of an engine, and its answer. -/
def GAdv (G : Nat → Prop) (sb eb : Nat) (P : En.Pat) (Next : Int) (R : List En.Ev) (B : List En.Rn) (K : Nat) (T : Int → Int) (t : Int) (w : World) (vm : Value) (w' : World) : Prop :=
  ∃ (L : List MV) (B' : List En.Rn) (G' : Nat → Prop), En.advInc P B ((En.sortEv R).filter fun e => decide (e.time ≤ t)) = some (L.map Prod.fst, B') ∧ MOwn w.heap.size w' vm L ∧ L.length ≤ 1200000 ∧ (∀ y ∈ L, y.1.1.length ≤ K + 12) ∧
    GAt G' w' sb eb P t Next ((En.sortEv R).filter fun e => decide (t < e.time)) (B'.filter (lastsP P.win t)) (K + 12) T ∧ (∀ b, G' b → G b ∨ (w.heap.size ≤ b ∧ vm.ownBlock ≠ some b ∧ ∀ y ∈ L, y.2.ownBlock ≠ some b)) ∧ (∀ b, G b → G' b) ∧ w.grownBy w' (some eb)
theorem gAdv (G : Nat → Prop) (sb eb : Nat) (P : En.Pat) (W Next t : Int) (R : List En.Ev) (B : List En.Rn) (K : Nat) (T : Int → Int) (w : World) (h : GAt G w sb eb P W Next R B K T) (hW : W ≤ t) (ht : t ≤ 9223372036854775807) (hK : K ≤ 90000) (hE : ErrType w) :
    Calls Tryz.prog 27 #[.pointer (some ⟨sb, 0, none⟩), .int .i64 t] w fun e w' => (En.advInc P B ((En.sortEv R).filter fun e => decide (e.time ≤ t)) = none ∧ e = .returned (.tuple #[.slice none 0 0, .int .i64 4]) ∧ Below w.heap.size w w') ∨ ∃ vm, e = .returned (.tuple #[vm, .int .i64 0]) ∧ GAdv G sb eb P Next R B K T t w vm w' := by
  obtain ⟨F, vs, vq, vr, Q, A, h1, rfl, h3⟩ := h
  have hsq : En.sortEv Q = En.sortEv R := En.sortEv_congr h1.perm (h1.pw.apt.perm h1.perm)
  have h10 := h1.perm.length_eq
  have h9 := h1.pw.q12
  refine (sAdvance_any F sb eb P W Next t vs vq vr Q A w h1.sblk h1.pe hW (by omega) h1.pw.s0 (by have := h1.pw.s4; omega) h1.pw.w0 h1.pw.w1 T K hK (h1.pw.avpl h1.hp h1.perm t (fun _ _ => rfl)) hE).mono ?_
  rintro e w' (⟨ha, rfl, hb⟩ | ⟨vm, rfl, vq', vr', L, Q', A', B', D, ha, hA', hQ', hpl, hPE, hmo, gr1⟩)
  · rw [hsq] at ha
    exact Or.inl ⟨ha, rfl, hb⟩
  · rw [hsq] at ha hQ'
    have h8 := hpl.qlen
    rcases h1.pw.adv t hW ht with ⟨-, h4⟩ | ⟨m, Bp, -, h4, -, h6⟩
    · rw [h4] at ha; cases ha
    have ha' := ha
    rw [h4] at ha'
    simp only [Option.some.injEq, Prod.mk.injEq] at ha'
    obtain ⟨hm', hB'⟩ := ha'
    have hpw := h6 (by rw [hB']; simpa using hpl.alen) (fun r hr => by
      rw [hB'] at hr
      obtain ⟨x, hx, rfl⟩ := List.mem_map.1 hr
      have h7 := hpl.ofl x hx
      omega)
    have hAm : A'.map Prod.fst = Bp.filter (lastsP P.win t) := by
      rw [hA', hB', List.filter_map]
      rfl
    have lsb := lt_of_block h1.sblk
    have hne : sb ≠ eb := fun e => h1.ns (by rw [e]; exact h1.pe.self)
    refine Or.inr ⟨vm, rfl, L, Bp, fun b => (newF F w.heap.size vm L b ∧ b < w'.heap.size) ∨ b = sb, by rw [hB']; exact ha, hmo, ?_, fun y hy => ?_, ⟨fun b => newF F w.heap.size vm L b ∧ b < w'.heap.size, vs, vq', vr', Q', A', ⟨(gr1.block sb lsb (fun e => hne (Option.some.inj e))).trans h1.sblk, hPE.mono (fun b hb hF => ⟨hF, hb⟩), hpl.hp, ?_, by rw [hAm]; exact hpw, fun b hb => hb.2, ?_⟩, hAm, fun b => Iff.rfl⟩, ?_, ?_, gr1⟩
    · have h7 := hpl.llen
      omega
    · have hl := En.advInc_len (P := P) T _ K _ _ _ (h1.pw.det T (fun _ _ => rfl)) (fun e he => ?_) h1.pw.ofl h4 y.1 (by rw [hm']; exact List.mem_map_of_mem hy)
      · have h7 := List.length_filter_le (fun e => decide (e.time ≤ t)) (En.sortEv R)
        rw [(En.sortEv_perm R).length_eq] at h7
        omega
      · exact (h1.pw.evs e ((En.sortEv_perm R).mem_iff.1 (List.mem_filter.1 he).1)).2.2.2
    · have h7 := (En.sortEv_perm Q').symm
      rw [hQ'] at h7
      exact h7
    · rintro ⟨hb | ⟨hb, -⟩, -⟩
      · exact h1.ns hb
      · omega
    · rintro b (⟨hb | hb, -⟩ | rfl)
      · exact Or.inl ((h3 b).2 (Or.inl hb))
      · exact Or.inr hb
      · exact Or.inl ((h3 b).2 (Or.inr rfl))
    · intro b hb
      rcases (h3 b).1 hb with hb | hb
      · exact Or.inl ⟨Or.inl hb, Nat.lt_of_lt_of_le (h1.lt b hb) gr1.size⟩
      · exact Or.inr hb

end Go.Proofs.YtfldcmdhneegmaaGreatDoor

/-
  The law Goes: its two engines, and the matches that it gathers.
-/
namespace Go.Proofs.YtfldcmdhneegmaaGreatDoor
open Go.RowKit Go.Lib

/-- append to a row of the call's own, out of whatever row; and where it lies. -/
theorem wpList_append_rowA {P : Program} {w : World} {ops : Array Oper} {rest : List Oper} {o : Oper} {a : Act} {Q : Exit → Act → World → Prop} (hgd : o.guard = none) (s x : Operand) (t : TypeId)
    (ho : o.op = .call { callee := .builtin .append, args := #[s, x], argTypes := #[t, t] })
    (base : Nat) (e : TypeId) (i : TypeInfo) (z : Value) (size bytes : Nat) (ht : P.underlying t = some (.slice e)) (hi : P.info? e = some i) (hz : i.zero = some z)
    (hsize : i.size = size) (hby : i.bytes = bytes) (hzs : z.cells.size = size) (hsz : 0 < size)
    (v : Value) (n : Nat) (xs : List Value) (hs : a.eval s = v) (hown : w.ownsRow base e size v n xs)
    (F : Nat → Prop) (vx : Value) (m : Nat) (news : List Value) (hx : a.eval x = vx) (hrow : RowAt F w vx size m news) (h1 : ∀ u ∈ news, u.oneCell' = true)
    (h63 : n + m ≤ maxLen) (hbytes : (n + m) * bytes ≤ 140737488355328) (hbase : base ≤ w.heap.size)
    (h : ∀ v' w', w'.ownsRow base e size v' (n + m) (xs ++ news) → w.grownBy w' v.ownBlock → (v'.ownBlock = v.ownBlock ∨ v'.ownBlock = some w.heap.size) → wpList P ops Q rest (a.put o.dst v') w') : wpList P ops Q (o :: rest) a w := by
  obtain ⟨hl, hr⟩ := hrow
  rcases hr with ⟨rfl, rfl⟩ | ⟨b, o', cap, rfl, _, _, _, _, r⟩
  · have hn : news = [] := List.eq_nil_of_length_eq_zero (by simpa using hl)
    subst hn
    refine wpList_append_own_none hgd s x t ho base e i size ht hi v n xs hs hown hx ?_
    exact h v w (by simpa using hown) ⟨rfl, rfl, rfl, Nat.le_refl _, fun _ _ _ => rfl⟩ (Or.inl rfl)
  · refine wpList_append_own_at w hgd s x t ho base e i z size bytes ht hi hz hsize hby hzs hsz v n xs hs hown ⟨b, o', none⟩ m cap news hx hl ?_ h1 h63 hbytes hbase (fun v' w' h2 h3 _ h5 => h v' w' h2 h3 h5)
    intro j u hj
    have := r j u hj
    by_cases h0 : j = 0
    · subst h0; simpa [Addr.add] using this
    · simpa [Addr.add, h0] using this

/-- Rows of matches. -/
structure MBk (base : Nat) (w : World) (v : Value) (L : List MV) : Prop where
  row : w.ownsRow base 109 2 v L.length (mCells L)
  offs : ∀ x ∈ L, w.ownsRow base 3 1 x.2 x.1.1.length (intCells x.1.1)
theorem MOwn.bk {base : Nat} {w : World} {v : Value} {L : List MV} (h : MOwn base w v L) : MBk base w v L := ⟨h.row, fun x hx => (h.offs x hx).1⟩
section
variable {base base' : Nat} {w w' : World} {v v' vm va : Value} {L M La : List MV}
theorem MBk.nil (base : Nat) (w : World) : MBk base w (.slice none 0 0) [] := ⟨World.ownsRow_nil _ _ _ _, fun _ h => (by cases h)⟩
theorem MBk.rd (h : MBk base w v L) : MRd w v L := ⟨(RowAt.ofOwn h.row).mono (fun _ _ _ => trivial), fun x hx => RowAt.mono (RowAt.ofOwn (h.offs x hx)) (fun _ _ _ => trivial)⟩
theorem MBk.mono (h : MBk base w v L) (hb : base' ≤ base) : MBk base' w v L := ⟨own_mono h.row hb, fun x hx => own_mono (h.offs x hx) hb⟩
theorem MBk.below (h : MBk base w v L) (hb : Below w.heap.size w w') : MBk base w' v L := ⟨own_below h.row hb, fun x hx => own_below (h.offs x hx) hb⟩
theorem MBk.eng {eb : Nat} (h : MBk base w v L) (he : ∃ c fz, w.heap[eb]? = some (.cells c 159 fz)) (gr : w.grownBy w' (some eb)) : MBk base w' v L := by
  obtain ⟨c, fz, he⟩ := he
  exact ⟨own_kept h.row he (by decide) gr, fun x hx => own_kept (h.offs x hx) he (by decide) gr⟩
theorem MBk.app (h : MBk base w v M) (hL : MBk base w vm L) (own : w'.ownsRow base 109 2 v' (M.length + L.length) (mCells M ++ mCells L)) (gr : w.grownBy w' v.ownBlock) : MBk base w' v' (M ++ L) := by
  refine ⟨by rw [List.length_append]; simpa [mCells] using own, fun x hx => ?_⟩
  rcases List.mem_append.1 hx with hx | hx
  · exact (h.offs x hx).kept gr (own_other (h.offs x hx) h.row (by decide))
  · exact (hL.offs x hx).kept gr (own_other (hL.offs x hx) h.row (by decide))
theorem MBk.other (ha : MBk base' w va La) (h : MBk base w v M) (hne : ∀ g, v.ownBlock = some g → va.ownBlock ≠ some g) (gr : w.grownBy w' v.ownBlock) : MBk base' w' va La := by
  refine ⟨ha.row.kept gr ?_, fun x hx => (ha.offs x hx).kept gr (own_other (ha.offs x hx) h.row (by decide))⟩
  cases hv : va.ownBlock with
  | none => exact Or.inl rfl
  | some g => exact Or.inr (fun e => hne g e.symm hv)
theorem MBk.one (h : MBk base w v L) : ∀ u ∈ mCells L, u.oneCell' = true := by
  intro u hu
  obtain ⟨y, hy, hu⟩ := List.mem_flatMap.1 hu
  obtain ⟨a, c, hv⟩ := own_slice (h.offs y hy)
  simp at hu
  rcases hu with rfl | rfl
  · rw [hv]; rfl
  · rfl
end

/-- The law's two engines while events come in. -/
structure GTwo (w wr : World) (xb xe yb ye : Nat) (win : Int) (n m : Nat) (Gx Gy : Nat → Prop) (Rx Ry : List En.Ev) (Tx Ty : Int → Int) : Prop where
  x : GAt Gx wr xb xe (En.abP win) (-9223372036854775808) n Rx [] 0 Tx
  y : GAt Gy wr yb ye (En.abP win) (-9223372036854775808) m Ry [] 0 Ty
  dis : ∀ b, Gx b → ¬ Gy b
  nx : ∀ b, Gx b → w.heap.size ≤ b
  ny : ∀ b, Gy b → w.heap.size ≤ b
  bel : Below w.heap.size w wr
section
variable {w wr w' : World} {xb xe yb ye : Nat} {win : Int} {n m : Nat} {Gx Gy : Nat → Prop} {Rx Ry : List En.Ev} {Tx Ty : Int → Int}
theorem GTwo.swap (h : GTwo w wr xb xe yb ye win n m Gx Gy Rx Ry Tx Ty) : GTwo w wr yb ye xb xe win m n Gy Gx Ry Rx Ty Tx := ⟨h.y, h.x, fun b h1 h2 => h.dis b h2 h1, h.ny, h.nx, h.bel⟩
theorem GTwo.below (h : GTwo w wr xb xe yb ye win n m Gx Gy Rx Ry Tx Ty) (hb : Below wr.heap.size wr w') : GTwo w w' xb xe yb ye win n m Gx Gy Rx Ry Tx Ty := ⟨h.x.below hb, h.y.below hb, h.dis, h.nx, h.ny, h.bel.trans (hb.mono h.bel.size)⟩
theorem GTwo.feed {kind time : Int} (h : GTwo w wr xb xe yb ye win n m Gx Gy Rx Ry Tx Ty) (hE : ErrType w) (hk : kind = 97 ∨ kind = 98) (h0 : -9223372036854775808 < time) (h1 : time ≤ 9223372036854775807) (hl : Rx.length < 12) (hn : n ≤ 1000) :
    Calls Tryz.prog 26 #[.pointer (some ⟨xb, 0, none⟩), .agg #[.int .i32 kind, .int .i64 time]] wr fun e w' => e = .returned (.tuple #[.int .i64 n, .int .i64 0]) ∧ ∃ Gx' Tx', Tx' = En.upd Tx n time ∧ GTwo w w' xb xe yb ye win (n + 1) m Gx' Gy (Rx ++ [⟨n, kind, time⟩]) Ry Tx' Ty := by
  have hlt : 4 < w.heap.size := World.block_lt_of_cell? w ⟨4, 0, none⟩ hE
  refine (gFeed Gx xb xe (En.abP win) _ n kind time Rx [] 0 Tx wr h.x (by omega) h1 (hE.below h.bel) (fun e => by have := h.nx _ e; omega)).mono ?_
  rw [En.ab_feed hk h0 hl]
  rintro e w' ⟨rfl, hf⟩
  refine ⟨rfl, ?_⟩
  unfold GFed at hf
  rw [En.ab_feed hk h0 hl] at hf
  obtain ⟨G', g1, g2, -, g4⟩ := hf
  have hbs := h.bel.size
  refine ⟨G', _, rfl, ⟨g1, h.y.frame g4.size (fun b hb => g4.block b (h.y.glt b hb) (fun e => h.dis b e hb)), fun b h3 h4 => ?_, fun b h3 => ?_, h.ny, ⟨g4.os.trans h.bel.os, g4.tape.trans h.bel.tape, g4.output.trans h.bel.output, Nat.le_trans h.bel.size g4.size, fun k hk => (g4.block k (by omega) (fun e => by have := h.nx k e; omega)).trans (h.bel.block k hk)⟩⟩⟩
  · rcases g2 b h3 with h5 | h5
    · exact h.dis b h5 h4
    · have := h.y.glt b h4
      omega
  · rcases g2 b h3 with h5 | h5
    · exact h.nx b h5
    · omega
end

/-- What the law holds while the second engine goes on. -/
structure GRel (w wr : World) (yb ye : Nat) (win : Int) (n N : Nat) (va : Value) (La : List MV) (Gy : Nat → Prop) (W : Int) (R : List En.Ev) (B : List En.Rn) (K i : Nat) (T : Int → Int) (vb : Value) (M : List MV) (pend rest : List (List Int × Int)) : Prop where
  y : GAt Gy wr yb ye (En.abP win) W n R B K T
  ny : ∀ b, Gy b → w.heap.size ≤ b
  bel : Below w.heap.size w wr
  a : MBk w.heap.size wr va La
  alt : ∀ g, va.ownBlock = some g → g < N
  b : MBk N wr vb M
  nb : ∀ g, vb.ownBlock = some g → ¬ Gy g
  len : B.length + R.length ≤ 12
  adv : (En.advInc (En.abP win) B (En.sortEv R)).map Prod.fst = some rest
  all : M.map Prod.fst ++ (pend ++ rest) = La.map Prod.fst
  ml : M.length ≤ 1200000 * i
  kl : K ≤ 12 * i
  hN : N ≤ wr.heap.size
  hw : w.heap.size ≤ N
  tm : ∀ e ∈ R, e.time ≤ 100000
section
variable {w wr w' : World} {yb ye : Nat} {win W t : Int} {n N K i : Nat} {va vb vm : Value} {La M L : List MV} {Gy : Nat → Prop} {R : List En.Ev} {B : List En.Rn} {T : Int → Int} {rest : List (List Int × Int)}
/-- Advance of the second engine. -/
theorem GRel.go (h : GRel w wr yb ye win n N va La Gy W R B K i T vb M [] rest) (hE : ErrType w) (hW : W ≤ t) (ht : t ≤ 100000) (hi : i ≤ 100) :
    Calls Tryz.prog 27 #[.pointer (some ⟨yb, 0, none⟩), .int .i64 t] wr fun e w' => ∃ (am : Option Addr) (cm : Nat) (L : List MV) (Gy' : Nat → Prop) (R' : List En.Ev) (B' : List En.Rn) (rest' : List (List Int × Int)), e = .returned (.tuple #[.slice am L.length cm, .int .i64 0]) ∧ L.length ≤ 1200000 ∧ MBk N w' (.slice am L.length cm) L ∧ (100000 ≤ t → rest' = []) ∧ GRel w w' yb ye win n N va La Gy' t R' B' (K + 12) (i + 1) T vb M (L.map Prod.fst) rest' := by
  have hk := h.kl
  refine (gAdv Gy yb ye (En.abP win) W n t R B K T wr h.y hW (by omega) (by omega) (hE.below h.bel)).mono ?_
  rintro e w' (⟨h1, -, -⟩ | ⟨vm, rfl, L, B', G', ha, hmo, hLl, -, hG, hG1, -, gr⟩)
  · obtain ⟨m, B2, h2, -⟩ := En.ab_adv win ((En.sortEv R).filter fun e => decide (e.time ≤ t)) B (by
      have h3 := List.length_filter_le (fun e : En.Ev => decide (e.time ≤ t)) (En.sortEv R)
      rw [(En.sortEv_perm R).length_eq] at h3
      have := h.len
      omega)
    rw [h1] at h2
    cases h2
  · obtain ⟨am, cm, rfl⟩ := hmo.len
    obtain ⟨rest', e1, e2, e3⟩ := En.ab_step h.y.pw hW h.len h.adv ha
    have hbs := h.bel.size
    have hNs := h.hN
    have leb := h.y.glt ye h.y.in2.2.1
    refine ⟨am, cm, L, G', _, _, rest', rfl, hLl, hmo.bk.mono hNs, fun htt => ?_, ⟨hG, fun b hb => ?_, ⟨gr.os.trans h.bel.os, gr.tape.trans h.bel.tape, gr.output.trans h.bel.output, Nat.le_trans hbs gr.size, fun k hk => (gr.block k (by omega) (fun e => by cases e; have := h.ny _ h.y.in2.2.1; omega)).trans (h.bel.block k hk)⟩, h.a.eng h.y.eng gr, h.alt, h.b.eng h.y.eng gr, fun g hg hb => ?_, e3, e2, ?_, ?_, by omega, Nat.le_trans hNs gr.size, h.hw, fun e he => ?_⟩⟩
    · have h0 : ((En.sortEv R).filter fun e => decide (t < e.time)) = [] := by
        rw [List.filter_eq_nil_iff]
        intro y hy
        have := h.tm y ((En.sortEv_perm R).mem_iff.1 hy)
        simp
        omega
      rw [h0] at e2
      simp [En.sortEv, En.advInc] at e2
      exact e2
    · rcases hG1 b hb with h3 | ⟨h3, -⟩
      · exact h.ny b h3
      · omega
    · rcases hG1 g hb with h3 | ⟨h3, -⟩
      · exact h.nb g hg h3
      · have := (h.b.row.lt g hg).2
        omega
    · rw [e1]
      have := h.all
      simpa using this
    · have := h.ml
      omega
    · exact h.tm e ((En.sortEv_perm R).mem_iff.1 (List.mem_filter.1 he).1)
/-- The matches are appended. -/
theorem GRel.app (h : GRel w wr yb ye win n N va La Gy W R B K i T vb M (L.map Prod.fst) rest) (hm : MBk N wr vm L) (hLl : L.length ≤ 1200000) {v' : Value} (own : w'.ownsRow N 109 2 v' (M.length + L.length) (mCells M ++ mCells L)) (gr : wr.grownBy w' vb.ownBlock) (hat : v'.ownBlock = vb.ownBlock ∨ v'.ownBlock = some wr.heap.size) :
    GRel w w' yb ye win n N va La Gy W R B K (i + 1) T v' (M ++ L) [] rest := by
  have hbs := h.bel.size
  have hwN := h.hw
  refine ⟨h.y.frame gr.size (fun b hb => gr.block b (h.y.glt b hb) (fun e => h.nb b e.symm hb)), h.ny, ⟨gr.os.trans h.bel.os, gr.tape.trans h.bel.tape, gr.output.trans h.bel.output, Nat.le_trans hbs gr.size, fun k hk => (gr.block k (by omega) (fun e => by have := (own_block h.b.row k e.symm).1; omega)).trans (h.bel.block k hk)⟩, h.a.other h.b (fun g hg e => by have := (own_block h.b.row g hg).1; have := h.alt g e; omega) gr, h.alt, h.b.app hm own gr, fun g hg hb => ?_, h.len, h.adv, ?_, ?_, ?_, Nat.le_trans h.hN gr.size, h.hw, h.tm⟩
  · rcases hat with h1 | h1
    · rw [h1] at hg
      exact h.nb g hg hb
    · rw [h1] at hg
      cases hg
      have := h.y.glt _ hb
      omega
  · have := h.all
    simpa using this
  · have := h.ml
    rw [List.length_append]
    omega
  · have := h.kl
    omega
/-- The first engine goes at once. -/
theorem GTwo.go {xb xe : Nat} {Gx : Nat → Prop} (h : GTwo w wr xb xe yb ye win n n Gx Gy R R T T) (hE : ErrType w) (hR : R.length ≤ 8) (htm : ∀ e ∈ R, e.time ≤ 100000) :
    Calls Tryz.prog 27 #[.pointer (some ⟨xb, 0, none⟩), .int .i64 100000] wr fun e w' => ∃ (am : Option Addr) (cm : Nat) (L : List MV) (rest : List (List Int × Int)), e = .returned (.tuple #[.slice am L.length cm, .int .i64 0]) ∧ L.length ≤ 1200000 ∧ (∀ y ∈ L, y.1.1.length ≤ 12) ∧ GRel w w' yb ye win n w'.heap.size (.slice am L.length cm) L Gy (-9223372036854775808) R [] 0 0 T (.slice none 0 0) [] [] rest := by
  refine (gAdv Gx xb xe (En.abP win) _ n 100000 R [] 0 T wr h.x (by omega) (by omega) (by omega) (hE.below h.bel)).mono ?_
  obtain ⟨m0, B0, hm0, -⟩ := En.ab_adv win (En.sortEv R) [] (by rw [(En.sortEv_perm R).length_eq]; simp; omega)
  have hadv : (En.advInc (En.abP win) [] (En.sortEv R)).map Prod.fst = some m0 := by rw [hm0]; rfl
  rintro e w' (⟨h1, -, -⟩ | ⟨vm, rfl, L, B', G', ha, hmo, hLl, hLo, hG, hG1, -, gr⟩)
  · have h0 : ((En.sortEv R).filter fun e => decide (e.time ≤ 100000)) = En.sortEv R := by
      rw [List.filter_eq_self]
      intro y hy
      simpa using htm y ((En.sortEv_perm R).mem_iff.1 hy)
    rw [h0, hm0] at h1
    cases h1
  · obtain ⟨am, cm, rfl⟩ := hmo.len
    have hL := En.ab_last htm hadv ha
    have hbs := h.bel.size
    have lxe := h.x.glt xe h.x.in2.2.1
    refine ⟨am, cm, L, m0, rfl, hLl, fun y hy => by have := hLo y hy; omega, ⟨h.y.frame gr.size (fun b hb => gr.block b (h.y.glt b hb) (fun e => by cases e; exact h.dis _ h.x.in2.2.1 hb)), h.ny, ⟨gr.os.trans h.bel.os, gr.tape.trans h.bel.tape, gr.output.trans h.bel.output, Nat.le_trans hbs gr.size, fun k hk => (gr.block k (by omega) (fun e => by cases e; have := h.nx _ h.x.in2.2.1; omega)).trans (h.bel.block k hk)⟩, hmo.bk.mono hbs, fun g hg => (hmo.row.lt g hg).2, MBk.nil _ _, fun g hg => (by cases hg), by simp; omega, hadv, by simp [hL], by simp, by simp, Nat.le_refl _, Nat.le_trans hbs gr.size, htm⟩⟩
end

end Go.Proofs.YtfldcmdhneegmaaGreatDoor
