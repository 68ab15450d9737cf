import Derived.Test.YtfldcmdhneegmaaGreatDoorZ49
import Derived.Test.YtfldcmdhneegmaaGreatDoorGoN
import Derived.Test.YtfldcmdhneegmaaGreatDoorGoB
import Derived.Test.YtfldcmdhneegmaaGreatDoorGoD
import Derived.Deep.DeepCutAuto

/-
  The law Goes, walked.
-/
namespace Go.Proofs.YtfldcmdhneegmaaGreatDoor
open Go.RowKit Go.Lib

/-- An event of the law: kind, moment, how far to go. -/
abbrev KV := Int × Int × Int
def EvsIn (w : World) (v : Value) (l : List KV) : Prop := (∃ ao cap, v = .slice ao l.length cap) ∧ ∀ i (hi : i < l.length), ∃ b o cap, v = .slice (some ⟨b, o, none⟩) l.length cap ∧ b < w.heap.size ∧ w.cell? ⟨b, o + i * 3, none⟩ = some (.int .i32 l[i].1) ∧ w.cell? ⟨b, o + i * 3 + 1, none⟩ = some (.int .i64 l[i].2.1) ∧ w.cell? ⟨b, o + i * 3 + 2, none⟩ = some (.int .i64 l[i].2.2)
theorem EvsIn.take {w : World} {ao : Option Addr} {cap : Nat} {l : List KV} (h : EvsIn w (.slice ao l.length cap) l) (k : Nat) (hk : k ≤ l.length) : EvsIn w (.slice ao k cap) (l.take k) := by
  have hl : (l.take k).length = k := by rw [List.length_take]; omega
  refine ⟨⟨ao, cap, by rw [hl]⟩, fun i hi => ?_⟩
  obtain ⟨b, o, c, he, hb, c0, c1, c2⟩ := h.2 i (by omega)
  cases he
  refine ⟨b, o, cap, by rw [hl], hb, ?_⟩
  rw [List.getElem_take]
  exact ⟨c0, c1, c2⟩
theorem EvsIn.get {w w' : World} {ao : Option Addr} {n cap : Nat} {l : List KV} (h : EvsIn w (.slice ao n cap) l) (hb : Below w.heap.size w w') {i : Nat} (hi : i < l.length) : ∃ b o, ao = some ⟨b, o, none⟩ ∧ w'.cell? ⟨b, o + i * 3, none⟩ = some (.int .i32 l[i].1) ∧ w'.cell? ⟨b, o + i * 3 + 1, none⟩ = some (.int .i64 l[i].2.1) ∧ w'.cell? ⟨b, o + i * 3 + 2, none⟩ = some (.int .i64 l[i].2.2) := by
  obtain ⟨b, o, c, he, hlt, c0, c1, c2⟩ := h.2 i hi
  cases he
  exact ⟨b, o, rfl, (cell_bel hb ⟨b, o + i * 3, none⟩ hlt).trans c0, (cell_bel hb ⟨b, o + i * 3 + 1, none⟩ hlt).trans c1, (cell_bel hb ⟨b, o + i * 3 + 2, none⟩ hlt).trans c2⟩

def abL : List (Int × Bool) := [(97, false), (98, false)]
theorem ab_fine {win : Int} (h0 : 0 ≤ win) (h9 : win ≤ 9999) : Pl.Fine abL win := by
  refine ⟨by simp [abL], by simp [abL], h0, h9, fun x hx => ?_⟩
  simp [abL] at hx
  rcases hx with rfl | rfl
  · exact ⟨by decide, by unfold Pl.Valid; omega⟩
  · exact ⟨by decide, by unfold Pl.Valid; omega⟩
theorem ab_text {win : Int} (h0 : 0 ≤ win) : (⟨#[97, 32, 98, 32, 47, 32]⟩ : ByteArray) ++ ⟨(decDigits win.toNat).toArray⟩ = ⟨(Pl.text abL win).toArray⟩ := by
  rw [ByteArray.mk_append_mk]
  simp [Pl.text, Pl.itoa_eq win h0, Pl.stepsText, Pl.stepText, abL]
  rfl
/-- New of the law's pattern. -/
theorem ab_new (win : Int) (h0 : 0 ≤ win) (h9 : win ≤ 9999) (w : World) (hE : EnvG w) :
    Calls Tryz.prog 25 #[.string ⟨(Pl.text abL win).toArray⟩] w fun e w' => ∃ sb eb v, e = .returned (.tuple #[.pointer (some ⟨sb, 0, none⟩), .int .i64 0]) ∧ SNewAt w w' sb eb v abL win := by
  have hf := ab_fine h0 h9
  have hl := Pl.text_length abL win hf
  have hs : (⟨(Pl.text abL win).toArray⟩ : ByteArray).size = (Pl.text abL win).length := by simp [ByteArray.size]
  refine (sNew_any _ w hE (by rw [hs]; omega)).mono ?_
  intro e w' h
  unfold SNewEnd at h
  rw [hs, if_neg (by omega), Pl.parse_text abL win hf] at h
  exact h
theorem GTwo.start {w w1 w2 w3 : World} {xb xe yb ye : Nat} {v v' : Value} {win : Int} (hf : Pl.Fine abL win) (hb : Below w.heap.size w w1) (hx : SNewAt w1 w2 xb xe v abL win) (hy : SNewAt w2 w3 yb ye v' abL win) :
    GTwo w w3 xb xe yb ye win 0 0 (fun b => w1.heap.size ≤ b ∧ b < w2.heap.size) (fun b => w2.heap.size ≤ b ∧ b < w3.heap.size) [] [] (fun _ => 0) (fun _ => 0) := by
  have s1 := hb.size
  have s2 := hx.bel.size
  exact ⟨(GAt.start hf hx).below hy.bel, GAt.start hf hy, fun b h1 h2 => by omega, fun b h1 => by omega, fun b h1 => by omega, (hb.trans (hx.bel.mono s1)).trans (hy.bel.mono (Nat.le_trans s1 s2))⟩

set_option maxHeartbeats 4000000 in
set_option maxRecDepth 1000000 in
theorem goes_any (window : Int) (ao : Option Addr) (cap : Nat) (l : List KV) (w : World) (hE : EnvG w) (hw0 : -9223372036854775808 ≤ window) (hw1 : window ≤ 9223372036854775807) (hcap : l.length ≤ cap) (hl : EvsIn w (.slice ao l.length cap) l) (hm : l.length ≤ 9223372036854775807) :
    Calls Tryz.prog 8 #[.int .i64 window, .slice ao l.length cap] w fun e w' => e = .returned (.bool true) ∧ Below w.heap.size w w' := by
  have HE := hid hE
  have HL := hid hl
  clear hE hl
  go_enter Tryz.func8, Tryz.ntmps8
  go_upto_if 29 with fail
  go_cut [1] (fun s1 wx => ∃ l' : List KV, s1 = .slice ao l'.length cap ∧ wx = w ∧ l'.length ≤ 8 ∧ Hid (EvsIn w (.slice ao l'.length cap) l'))
  case first =>
    by_cases h8 : 8 < l.length
    · have h8' : (8 : Int) < (l.length : Int) := by omega
      have hcz : ¬ (cap = 0) := by omega
      go_wp2
      go_meet
      case rel =>
        have e8 : (l.take 8).length = 8 := by rw [List.length_take]; omega
        refine ⟨l.take 8, by rw [e8], rfl, by omega, ?_⟩
        rw [e8]
        exact HL.out.take 8 (by omega)
    · have h8' : decide ((8 : Int) < (l.length : Int)) = false := decide_eq_false (by omega)
      go_wp2
      go_meet
      case rel => exact ⟨l, rfl, rfl, by omega, HL⟩
  case rest =>
    obtain ⟨l', rfl, hwx, hl8, HL'⟩ := hcut
    have hwx' := hwx.symm
    subst hwx'
    clear HL hm hcap
    go_upto_if 33 with fail
    go_cut [0] (fun s0 wx => ∃ u : Nat, s0 = .int .i64 u ∧ wx = w ∧ u ≤ 9223372036854775807)
    case first =>
      by_cases h0 : window < 0
      · have hww : IntKind.i64.wrap (window + 1) = window + 1 := wrap_small (by omega) (by omega)
        have hwn : IntKind.i64.wrap (-(window + 1)) = -(window + 1) := wrap_small (by omega) (by omega)
        go_wp2
        go_meet
        case rel => exact ⟨(-(window + 1)).toNat, by rw [Int.toNat_of_nonneg (by omega)], rfl, by omega⟩
      · have h0' : decide (window < 0) = false := decide_eq_false h0
        go_wp2
        go_meet
        case rel => exact ⟨window.toNat, by rw [Int.toNat_of_nonneg (by omega)], rfl, by omega⟩
    case rest =>
      obtain ⟨u, rfl, hwx, hu1⟩ := hcut
      have hwx' := hwx.symm
      subst hwx'
      obtain ⟨win, hwin⟩ : ∃ win, (u : Int) % 10000 = win := ⟨_, rfl⟩
      have hwin0 : 0 ≤ win ∧ win ≤ 9999 := by omega
      have HD := hid (kDigits_any win w hwin0.1 hwin0.2)
      have hl4 := Pl.decDigits_length win.toNat (by omega)
      go_wp2_with (go_at_call 24; refine HD.out.mono ?_; rintro e w1 ⟨rfl, hb1⟩; have H1 := hid hb1; clear hb1)
      rw [ab_text hwin0.1]
      refine (ab_new win hwin0.1 hwin0.2 w1 (HE.out.below H1.out)).mono ?_
      rintro e w2 ⟨xb, xe, vx, rfl, hx⟩
      have H2 := hid hx
      clear hx
      go_wp2_with (go_at_call 25; fail)
      refine (ab_new win hwin0.1 hwin0.2 w2 ((HE.out.below H1.out).below H2.out.bel)).mono ?_
      rintro e w3 ⟨yb, ye, vy, rfl, hy⟩
      have HT := hid (GTwo.start (ab_fine hwin0.1 hwin0.2) H1.out H2.out hy)
      clear hy H2 H1 HD hl4 hwin hu1 hw0 hw1
      go_wp2
      go_loopw [11] (fun s11 wr => ∃ i : Nat, i ≤ l'.length ∧ s11 = .int .i64 i ∧ Hid (∃ Gx Gy R T, GTwo w wr xb xe yb ye win i i Gx Gy R R T T ∧ R.length ≤ i ∧ ∀ e ∈ R, e.time ≤ 100000)) (fun s11 _ => l'.length - (intOf s11).toNat)
      case atStart => exact ⟨0, by omega, rfl, _, _, [], _, HT.out, by simp, by simp⟩
      case round =>
        obtain ⟨i, hi, rfl, hr⟩ := hrel
        clear HT
        by_cases hlt : i < l'.length
        · have hi' : (i : Int) < (l'.length : Int) := by omega
          obtain ⟨Gx, Gy, R, T, hg, hR, htm⟩ := hr.out
          obtain ⟨b, o, rfl, c0, c1, c2⟩ := HL'.out.get hg.bel hlt
          generalize l'[i].1 = kd at c0
          generalize l'[i].2.1 = tm at c1
          have HG := hid (And.intro hg (And.intro hR htm))
          clear hr hg hR htm c2
          go_upto_if 78 with fail
          go_cut [12] (fun s12 wx => ∃ k : Int, s12 = .int .i32 k ∧ wx = wr ∧ (k = 97 ∨ k = 98))
          case first =>
            go_wp2
            all_goals (go_meet; case rel => first | exact ⟨98, rfl, rfl, Or.inr rfl⟩ | exact ⟨97, rfl, rfl, Or.inl rfl⟩)
          case rest =>
            obtain ⟨k, rfl, hwx, hk⟩ := hcut
            have hwx' := hwx.symm
            subst hwx'
            clear c0
            obtain ⟨τ, hτ⟩ : ∃ τ, tm.tmod 100000 = τ := ⟨_, rfl⟩
            have hτb : -100000 < τ ∧ τ < 100000 := by
              have h1 := Int.tmod_lt_of_pos tm (show (0 : Int) < 100000 by omega)
              have h2 := Int.lt_tmod_of_pos tm (show (0 : Int) < 100000 by omega)
              omega
            have hii : ((i : Int) != (i : Int)) = false := by simp
            go_wp2_with (go_at_call 26; fail)
            refine (HG.out.1.feed HE.out.err hk (by omega) (by omega) (by have := HG.out.2.1; omega) (by omega)).mono ?_
            rintro e w4 ⟨rfl, Gx', Tx', hT1, hg1⟩
            have H4 := hid (And.intro hT1 hg1)
            clear hT1 hg1
            go_wp2_with (go_at_call 26; fail)
            refine (H4.out.2.swap.feed HE.out.err hk (by omega) (by omega) (by have := HG.out.2.1; omega) (by omega)).mono ?_
            rintro e w5 ⟨rfl, Gy', Ty', hT2, hg2⟩
            have H5 := hid (And.intro hT2 hg2.swap)
            clear hT2 hg2
            go_wp2
            go_roundw
            case rel =>
              have h6 := H5.out.2
              rw [H4.out.1, H5.out.1] at h6
              refine ⟨i + 1, by omega, by go_num, Gx', Gy', _, _, h6, ?_, fun e he => ?_⟩
              · have := HG.out.2.1
                simp
                omega
              · rcases List.mem_append.1 he with h7 | h7
                · exact HG.out.2.2 e h7
                · obtain rfl := List.mem_singleton.1 h7
                  show τ ≤ 100000
                  omega
            case measure => simp [intOf]; omega
        · have hi' : decide ((i : Int) < (l'.length : Int)) = false := decide_eq_false (by omega)
          obtain ⟨Gx, Gy, R, T, hg, hR, htm⟩ := hr.out
          have HG := hid (And.intro hg (And.intro hR htm))
          clear hr hg hR htm
          go_wp2_with (go_at_call 27; fail)
          refine (HG.out.1.go HE.out.err (by have := HG.out.2.1; omega) HG.out.2.2).mono ?_
          rintro e w4 ⟨am, cm, L, rest, rfl, hL1, hL2, hrl⟩
          have H4 := hid (And.intro hL2 hrl)
          clear hL2 hrl HG
          obtain ⟨j0, hj0, hz0, hz1, hz2⟩ := info_parts Tryz.infoMatch
          go_wp2
          go_loopw [19, 20, 21] (fun s19 s20 s21 wq => ∃ (ab : Option Addr) (nb cb : Nat) (at' : Int) (j : Nat), s19 = .slice ab nb cb ∧ s20 = .int .i64 at' ∧ s21 = .int .i64 j ∧ j ≤ l'.length ∧ -100000 ≤ at' ∧ at' ≤ 100000 ∧ Hid (∃ Gy W R B K T M rest, W ≤ at' ∧ GRel w wq yb ye win i w4.heap.size (.slice am L.length cm) L Gy W R B K (2 * j) T (.slice ab nb cb) M [] rest)) (fun _ _ s21 _ => l'.length - (intOf s21).toNat)
          case atStart => exact ⟨none, 0, 0, -100000, 0, rfl, rfl, rfl, by omega, by omega, by omega, Gy, _, R, [], 0, T, [], rest, by omega, H4.out.2⟩
          case round =>
            obtain ⟨ab, nb, cb, at', j, rfl, rfl, rfl, hj, ha0, ha1, hr⟩ := hrel
            obtain ⟨Gy1, W1, R1, B1, K1, T1, M1, rest1, hW1, hg1⟩ := hr.out
            have HG := hid hg1
            obtain ⟨ab', cb', hv⟩ := own_slice hg1.b.row
            obtain ⟨rfl, rfl, rfl⟩ : ab = ab' ∧ nb = M1.length ∧ cb = cb' := by simpa using hv
            have hml := hg1.ml
            clear hr hv
            by_cases hjl : j < l'.length
            · have hj' : (j : Int) < (l'.length : Int) := by omega
              have hj50 : (j : Int) < 50 := by omega
              obtain ⟨b, o, rfl, c0, c1, c2⟩ := HL'.out.get hg1.bel hjl
              generalize l'[j].2.2 = gv at c2
              clear c0 c1 hg1
              go_upto_if 138 with fail
              go_cut [22] (fun s22 wx => ∃ g : Nat, s22 = .int .i64 g ∧ wx = wr)
              case first =>
                by_cases h0 : gv < 0
                · go_wp2
                  go_meet
                  case rel => exact ⟨0, rfl, rfl⟩
                · have h0' : decide (gv < 0) = false := decide_eq_false h0
                  go_wp2
                  go_meet
                  case rel => exact ⟨gv.toNat, by rw [Int.toNat_of_nonneg (by omega)], rfl⟩
              case rest =>
                obtain ⟨g, rfl, hwx⟩ := hcut
                have hwx' := hwx.symm
                subst hwx'
                clear c2
                have hg5 : 0 ≤ (g : Int) % 50000 ∧ (g : Int) % 50000 < 50000 := by omega
                obtain ⟨γ, hγ⟩ : ∃ γ, (g : Int) % 50000 = γ := ⟨_, rfl⟩
                rw [hγ] at hg5
                have hw : IntKind.i64.wrap (at' + γ) = at' + γ := wrap_small (by omega) (by omega)
                go_upto_if 144 with fail
                go_cut [20] (fun s20 wx => ∃ at2 : Int, s20 = .int .i64 at2 ∧ wx = wr ∧ at' ≤ at2 ∧ at2 ≤ 100000)
                case first =>
                  by_cases h1 : 100000 < at' + γ
                  · go_wp2
                    go_meet
                    case rel => exact ⟨100000, rfl, rfl, by omega, by omega⟩
                  · have h1' : decide (100000 < at' + γ) = false := decide_eq_false h1
                    go_wp2
                    go_meet
                    case rel => exact ⟨at' + γ, rfl, rfl, by omega, by omega⟩
                case rest =>
                  obtain ⟨at2, rfl, hwx, h2a, h2b⟩ := hcut
                  have hwx' := hwx.symm
                  subst hwx'
                  clear hw hγ
                  go_wp2_with (go_at_call 27; fail)
                  refine (HG.out.go HE.out.err (t := at2) (by omega) (by omega) (by omega)).mono ?_
                  rintro e w5 ⟨am2, cm2, L2, Gy2, R2, B2, rest2, rfl, hl2, hmb, -, hr2⟩
                  have H5 := hid (And.intro hmb hr2)
                  clear hmb hr2
                  go_wp2_with (at_builtin; refine wpList_append_rowA rfl _ _ 35 rfl w4.heap.size 109 j0 (.agg #[.slice none 0 0, .int .i64 0]) 2 32 Tryz.underlying35 hj0 hz0 hz1 hz2 rfl (by decide) _ _ _ rfl H5.out.2.b.row (fun b => w4.heap.size ≤ b) _ L2.length (mCells L2) rfl (RowAt.ofOwn H5.out.1.row) H5.out.1.one (by unfold maxLen; omega) (by omega) H5.out.2.hN ?_)
                  intro v6 w6 own6 gr6 hat6
                  have H6 := hid (H5.out.2.app H5.out.1 hl2 own6 gr6 hat6)
                  obtain ⟨a6, c6, rfl⟩ := own_slice own6
                  clear own6 gr6 hat6
                  go_wp2
                  go_roundw
                  case rel => exact ⟨a6, _, c6, at2, j + 1, rfl, rfl, by go_num, by omega, by omega, by omega, Gy2, at2, R2, B2, _, T1, _, rest2, by omega, by have := H6.out; rwa [show 2 * j + 1 + 1 = 2 * (j + 1) by omega] at this⟩
                  case measure => simp [intOf]; omega
            · have hj' : decide ((j : Int) < (l'.length : Int)) = false := decide_eq_false (by omega)
              clear hg1
              go_wp2_with (go_at_call 27; fail)
              refine (HG.out.go HE.out.err (t := 100000) (by omega) (by omega) (by omega)).mono ?_
              rintro e w5 ⟨am2, cm2, L2, Gy2, R2, B2, rest2, rfl, hl2, hmb, hend, hr2⟩
              obtain rfl := hend (by omega)
              have H5 := hid (And.intro hmb hr2)
              clear hmb hr2 hend
              go_wp2_with (at_builtin; refine wpList_append_rowA rfl _ _ 35 rfl w4.heap.size 109 j0 (.agg #[.slice none 0 0, .int .i64 0]) 2 32 Tryz.underlying35 hj0 hz0 hz1 hz2 rfl (by decide) _ _ _ rfl H5.out.2.b.row (fun b => w4.heap.size ≤ b) _ L2.length (mCells L2) rfl (RowAt.ofOwn H5.out.1.row) H5.out.1.one (by unfold maxLen; omega) (by omega) H5.out.2.hN ?_)
              intro v6 w6 own6 gr6 hat6
              have H6 := hid (H5.out.2.app H5.out.1 hl2 own6 gr6 hat6)
              obtain ⟨a6, c6, rfl⟩ := own_slice own6
              clear own6 gr6 hat6
              go_wp2_with (go_at_call 28; fail)
              refine (kSame_same _ _ L (M1 ++ L2) w6 H6.out.a.rd H6.out.b.rd (by have := H6.out.all; simpa using this.symm) (by omega) (fun y hy => by have := H4.out.1 y hy; omega)).mono ?_
              rintro e w7 ⟨rfl, hb7⟩
              have H7 := hid (H6.out.bel.trans (hb7.mono H6.out.bel.size))
              clear hb7
              go_wp2
              go_ret
              exact ⟨rfl, H7.out⟩

end Go.Proofs.YtfldcmdhneegmaaGreatDoor
