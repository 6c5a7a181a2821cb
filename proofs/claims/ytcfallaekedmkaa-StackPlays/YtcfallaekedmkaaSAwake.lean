/- The law's own 'awake': the document's example. -/
import Derived.Test.YtcfallaekedmkaaSSame
import Derived.Test.YtcfallaekedmkaaPFit
namespace Go.Proofs.Ytcfallaekedmkaa
open Go.RowKit
open Mm (IsMem MS zeroMS)

def K0 : Cf := ⟨3, 0, 1, 1, 1, 0, 3⟩
theorem K0_ok : K0.Ok := ⟨by decide, by decide, by decide, by decide, by decide, by decide, by decide, by decide⟩

def pop0 : PS := ⟨-1, false, 0, 0, 0⟩
def memK0 (K : Cf) : MS := zeroMS (memX K.C K.D K.B K.N (K.S - 1))

/-- Two Pops, step by step in turn. -/
def awk : Nat → MS × PS × PS
  | 0 => (memK0 K0, pop0, pop0)
  | n + 1 => ((popStep K0 (popStep K0 (awk n).1 (awk n).2.1).1 (awk n).2.2).1, (popStep K0 (awk n).1 (awk n).2.1).2, (popStep K0 (popStep K0 (awk n).1 (awk n).2.1).1 (awk n).2.2).2)

theorem popStep_len (K : Cf) (m : MS) (p : PS) : (popStep K m p).1.X.length = m.X.length := by
  unfold popStep
  split
  · simp [Mm.touched]
  split
  · simp [Mm.touched]
  split
  · split <;> simp [Mm.touched]
  · rfl
theorem popStep_t (K : Cf) (m : MS) (p : PS) : m.t ≤ (popStep K m p).1.t ∧ (popStep K m p).1.t ≤ m.t + 1 := by
  have h : m.t ≤ m.t + 1 := by omega
  unfold popStep
  split
  · exact ⟨h, Int.le_refl _⟩
  split
  · exact ⟨h, Int.le_refl _⟩
  split
  · split <;> exact ⟨h, Int.le_refl _⟩
  · exact ⟨Int.le_refl _, h⟩
theorem popStep_wf {K : Cf} {m : MS} {p : PS} (h : PWf K p) (hX : ∀ i, m.X.getD i 0 < 18446744073709551616) : PWf K (popStep K m p).2 := by
  unfold popStep
  split
  · refine ⟨by show (if _ then 3 else 1) ≤ 3; split <;> omega, hX 3, ?_⟩
    show (if _ then 3 else 1) = 1 → _
    intro e hf
    rw [if_pos hf] at e
    omega
  split
  · exact ⟨by show 2 ≤ 3; omega, h.tp, by intro e; cases e⟩
  split
  · split
    · exact ⟨by show 3 ≤ 3; omega, h.tp, by intro e; cases e⟩
    · exact ⟨by show 0 ≤ 3; omega, h.tp, by intro e; cases e⟩
  · exact h

theorem awk_len : ∀ n, (awk n).1.X.length = 23
  | 0 => by simp only [awk, memK0, zeroMS, memX_len]; rfl
  | n + 1 => by simp only [awk, popStep_len]; exact awk_len n
theorem awk_t : ∀ n, 0 ≤ (awk n).1.t ∧ (awk n).1.t ≤ 2 * n
  | 0 => by simp [awk, memK0, zeroMS]
  | n + 1 => by
    have h := awk_t n
    have h1 := popStep_t K0 (awk n).1 (awk n).2.1
    have h2 := popStep_t K0 (popStep K0 (awk n).1 (awk n).2.1).1 (awk n).2.2
    simp only [awk]
    omega
theorem awk_end : (awk 6).2.1.sl = 0 ∧ (awk 6).2.2.sl = 1 ∧ lst K0 (awk 6).1.X = [2] := by decide

theorem IsPopS.below {w w' : World} {P : Nat} {K : Cf} {p : PS} (h : IsPopS w P K p) (b : Below w.heap.size w w') : IsPopS w' P K p := IsPop.below h b
theorem IsPopS.chg {L : List Nat} {w w' : World} {P : Nat} {K : Cf} {p : PS} (h : IsPopS w P K p) (x : Chg L w w') (hn : P ∉ L) : IsPopS w' P K p := IsPop.chg h x hn
theorem IsPopS.lt {w : World} {P : Nat} {K : Cf} {p : PS} (h : IsPopS w P K p) : P < w.heap.size := IsPop.lt h
theorem IsPushS.below {w w' : World} {P : Nat} {K : Cf} {q : QS} (h : IsPushS w P K q) (b : Below w.heap.size w w') : IsPushS w' P K q := IsPush.below h b
theorem IsPushS.chg {L : List Nat} {w w' : World} {P : Nat} {K : Cf} {q : QS} (h : IsPushS w P K q) (x : Chg L w w') (hn : P ∉ L) : IsPushS w' P K q := IsPush.chg h x hn
theorem IsPushS.lt {w : World} {P : Nat} {K : Cf} {q : QS} (h : IsPushS w P K q) : P < w.heap.size := IsPush.lt h

structure Awk (w wr : World) (Bc M G P Q : Nat) (n : Nat) : Prop where
  mem : IsMem wr M G (awk n).1
  a : IsPopS wr P K0 (awk n).2.1
  b : IsPopS wr Q K0 (awk n).2.2
  wa : PWf K0 (awk n).2.1
  wb : PWf K0 (awk n).2.2
  cfg : IsCfg wr Bc 3 0 1 1 1 0
  bel : Below w.heap.size w wr

theorem Awk.below {w wr w1 : World} {Bc M G P Q n : Nat} (h : Awk w wr Bc M G P Q n) (b : Below wr.heap.size wr w1) : Awk w w1 Bc M G P Q n :=
  ⟨h.mem.below b, IsPop.below h.a b, IsPop.below h.b b, h.wa, h.wb, h.cfg.below b, h.bel.trans (b.mono h.bel.size)⟩

theorem Awk.step {w wr : World} {Bc M G P Q n : Nat} (h : Awk w wr Bc M G P Q n) (hn : n < 6) (hM : w.heap.size ≤ M) (hG : w.heap.size ≤ G) (hP : w.heap.size ≤ P) (hQ : w.heap.size ≤ Q) (d : P ≠ M ∧ P ≠ G ∧ Q ≠ M ∧ Q ≠ G ∧ P ≠ Q ∧ Bc ≠ M ∧ Bc ≠ G ∧ Bc ≠ P ∧ Bc ≠ Q) :
    Calls Try.prog 21 #[.pointer (some ⟨P, 0, none⟩), .pointer (some ⟨M, 0, none⟩)] wr fun e w1 => (∃ b, e = .returned (.bool b)) ∧
      Calls Try.prog 21 #[.pointer (some ⟨Q, 0, none⟩), .pointer (some ⟨M, 0, none⟩)] w1 fun e w2 => (∃ b, e = .returned (.bool b)) ∧ Awk w w2 Bc M G P Q (n + 1) := by
  obtain ⟨d1, d2, d3, d4, d5, d6, d7, d8, d9⟩ := d
  have ht := awk_t n
  have hl := awk_len n
  refine (popStep_any K0_ok h.mem h.a d1 d2 hl (by omega) h.wa).mono fun e w1 ⟨he, m1, p1, k1⟩ => ⟨⟨_, he⟩, ?_⟩
  have t1 := popStep_t K0 (awk n).1 (awk n).2.1
  have b1 : IsPopS w1 Q K0 (awk n).2.2 := IsPop.chg h.b k1 (by simp [d3, d4, Ne.symm d5])
  refine (popStep_any K0_ok m1 b1 d3 d4 (by rw [popStep_len]; exact hl) (by omega) h.wb).mono fun e w2 ⟨he, m2, p2, k2⟩ => ⟨⟨_, he⟩, ?_⟩
  have a2 : IsPopS w2 P K0 (popStep K0 (awk n).1 (awk n).2.1).2 := IsPop.chg p1 k2 (by simp [d1, d2, d5])
  have lt1 := fun i => m1.word_lt i
  have lt0 := fun i => h.mem.word_lt i
  refine ⟨m2, a2, p2, popStep_wf h.wa lt0, popStep_wf h.wb lt1, (h.cfg.chg k1 (by simp [d6, d7, d8])).chg k2 (by simp [d6, d7, d9]), ?_⟩
  exact k2.below (k1.below h.bel (by simp; omega) (Nat.le_refl _)) (by simp; omega) (Nat.le_refl _)

theorem Awk.held {w wr : World} {Bc M G P Q : Nat} (h : Awk w wr Bc M G P Q 6) : wr.cell? ⟨P, 0, none⟩ = some (.int .i64 0) ∧ wr.cell? ⟨Q, 0, none⟩ = some (.int .i64 1) ∧ wr.cell? ⟨Bc, 0, none⟩ = some (.int .i64 3) ∧ wr.cell? ⟨Bc, 1, none⟩ = some (.int .i64 0) ∧ wr.cell? ⟨Bc, 2, none⟩ = some (.int .i64 1) ∧ wr.cell? ⟨Bc, 3, none⟩ = some (.int .i64 1) ∧ wr.cell? ⟨Bc, 4, none⟩ = some (.int .i64 1) ∧ wr.cell? ⟨Bc, 5, none⟩ = some (.int .i64 0) := by
  have h1 := (IsPop.cells h.a).1
  have h2 := (IsPop.cells h.b).1
  rw [awk_end.1] at h1
  rw [awk_end.2.1] at h2
  exact ⟨h1, h2, h.cfg.cells⟩

theorem Awk.words {w wr : World} {Bc M G P Q : Nat} (h : Awk w wr Bc M G P Q 6) : Calls Try.prog 14 #[.pointer (some ⟨M, 0, none⟩)] wr fun e w' => ∃ R, e = .returned (.slice (some ⟨R, 0, none⟩) 23 23) ∧ Mm.IsWords w' R (awk 6).1.X ∧ Below wr.heap.size wr w' := by
  have hl := awk_len 6
  have c := Mm.words_any h.mem (by omega)
  rw [hl] at c
  exact c.mono fun e w' ⟨R, he, hw, _, hb⟩ => ⟨R, he, hw, hb⟩
theorem awk_list {wr : World} {R : Nat} (h : Mm.IsWords wr R (awk 6).1.X) (hX : ∀ i, (awk 6).1.X.getD i 0 < 18446744073709551616) :
    Calls Try.prog 19 #[.agg (cs 3 0 1 1 1 0), .slice (some ⟨R, 0, none⟩) 23 23] wr fun e w' => ∃ g off cap, e = .returned (.slice (some ⟨g, off, none⟩) 1 cap) ∧ Below wr.heap.size wr w' := by
  have c := slist_yes K0_ok (cap := 23) (RdW.of_words h) (awk_len 6) hX
  rw [awk_end.2.2] at c
  refine c.mono fun e w' ⟨v, he, hI, _, hb⟩ => ?_
  obtain ⟨ad, cap, rfl, _, hf⟩ := hI.form
  obtain ⟨g, off, rfl⟩ := hf (by simp)
  exact ⟨g, off, cap, he, hb⟩

set_option maxHeartbeats 4000000 in
theorem awake_any (w : World) : Calls Try.prog 11 #[] w fun e w' => e = .returned (.bool true) ∧ Below w.heap.size w w' := by
  have c1 : ∀ w, Calls Try.prog 10 #[.agg (cs 3 0 1 1 1 0)] w fun e w' => ∃ M G, e = .returned (.pointer (some ⟨M, 0, none⟩)) ∧ IsMem w' M G (awk 0).1 ∧ w.heap.size ≤ M ∧ w.heap.size ≤ G ∧ Below w.heap.size w w' :=
    memory_yes K0_ok.r K0_ok.b K0_ok.b8 K0_ok.c8 K0_ok.d16 K0_ok.s64 K0_ok.s1 K0_ok.d1
  have c2 : ∀ w, Calls Try.prog 20 #[.agg (cs 3 0 1 1 1 0)] w fun e w' => ∃ P, e = .returned (.pointer (some ⟨P, 0, none⟩)) ∧ IsPopS w' P K0 pop0 ∧ w.heap.size ≤ P ∧ Below w.heap.size w w' := newPop_yes (s := 3) (a := 0) (c := 1) (d := 1) (g := 1) (k := 0) K0_ok.r
  have bel := alloc_below w (.cells #[.int .i64 3, .int .i64 0, .int .i64 1, .int .i64 1, .int .i64 1, .int .i64 0] 23)
  have hh := cfg_new w 3 0 1 1 1 0
  go_enter Try.func11, Try.ntmps11
  go_upto_region 2 with fail
  generalize w.alloc (.cells #[.int .i64 3, .int .i64 0, .int .i64 1, .int .i64 1, .int .i64 1, .int .i64 0] 23) = w0 at *
  obtain ⟨l0, l1, l2, l3, l4, l5⟩ := hh.cells
  go_upto_region 3 with (first
    | (go_at_call 10; refine (c1 _).mono ?_; rintro e w1 ⟨M, G, rfl, hm, hM, hG, hb⟩; replace bel := seq_below bel hb))
  have hlt := hh.lt
  replace hh := hh.below hb
  replace hM : w.heap.size + 1 ≤ M := by omega
  replace hG : w.heap.size + 1 ≤ G := by omega
  clear l0 l1 l2 l3 l4 l5 hb hlt c1
  replace hh := hh.below (Below.refl w1.heap.size w1).drew
  replace hm := hm.below (Below.refl w1.heap.size w1).drew
  replace bel := bel.drew
  go_region_held (fun wr => wr.cell? ⟨w.heap.size, 0, none⟩ = some (.int .i64 3) ∧ wr.cell? ⟨w.heap.size, 1, none⟩ = some (.int .i64 0) ∧ wr.cell? ⟨w.heap.size, 2, none⟩ = some (.int .i64 1) ∧ wr.cell? ⟨w.heap.size, 3, none⟩ = some (.int .i64 1) ∧ wr.cell? ⟨w.heap.size, 4, none⟩ = some (.int .i64 1) ∧ wr.cell? ⟨w.heap.size, 5, none⟩ = some (.int .i64 0)) (with_reducible exact hh.cells) (first
    | (go_at_call 20; with_reducible refine (c2 _).mono ?_; first | (rintro e w3 ⟨Q, rfl, hq, hQ, hb⟩; have hPlt := hp.lt; replace hp := hp.below hb; replace bel := seq_below bel hb; replace hh := hh.below hb; replace hm := hm.below hb) | (rintro e w3 ⟨P, rfl, hp, hP, hb⟩; have hMlt := hm.M_lt; have hGlt := hm.G_lt; replace bel := seq_below bel hb; replace hh := hh.below hb; replace hm := hm.below hb)))
  have hs := bel.size
  have hne : P ≠ M ∧ P ≠ G ∧ Q ≠ M ∧ Q ≠ G ∧ P ≠ Q ∧ w.heap.size ≠ M ∧ w.heap.size ≠ G ∧ w.heap.size ≠ P ∧ w.heap.size ≠ Q := by omega
  have hb2 : w.heap.size ≤ M ∧ w.heap.size ≤ G ∧ w.heap.size ≤ P ∧ w.heap.size ≤ Q := by omega
  have aw : Awk w w3 w.heap.size M G P Q 0 := ⟨hm, hp, hq, ⟨by decide, by decide, by decide⟩, ⟨by decide, by decide, by decide⟩, hh, bel⟩
  clear hm hp hq hh bel hs hMlt hGlt hPlt hP hQ hM hG c2
  go_wp2
  go_loopw [5] (fun i wr => ∃ n : Nat, n ≤ 6 ∧ i = .int .i64 n ∧ Awk w wr w.heap.size M G P Q n) (fun i _ => 6 - (intOf i).toNat)
  case atStart => exact ⟨0, Nat.zero_le _, rfl, aw⟩
  case round =>
    clear aw
    obtain ⟨n, hn, rfl, aw⟩ := hrel
    by_cases hn6 : n < 6
    · have c0 := aw.step hn6 hb2.1 hb2.2.1 hb2.2.2.1 hb2.2.2.2 hne
      clear aw
      go_wp2_with (first
        | (go_at_call 21; with_reducible refine c9.mono ?_; rintro e w5 ⟨⟨b2, rfl⟩, aw⟩)
        | (go_at_call 21; with_reducible refine c0.mono ?_; rintro e w4 ⟨⟨b1, rfl⟩, c9⟩))
      go_roundw
      case rel => exact ⟨n + 1, by omega, by go_num, aw⟩
      case measure => simp [intOf]; omega
    · have hn66 : n = 6 := by omega
      subst hn66
      have hX := fun i => aw.mem.word_lt i
      go_upto_region 11 with fail
      replace aw := aw.below (Below.refl wr.heap.size wr).drew
      go_region_held (fun wr => wr.cell? ⟨P, 0, none⟩ = some (.int .i64 0) ∧ wr.cell? ⟨Q, 0, none⟩ = some (.int .i64 1) ∧ wr.cell? ⟨w.heap.size, 0, none⟩ = some (.int .i64 3) ∧ wr.cell? ⟨w.heap.size, 1, none⟩ = some (.int .i64 0) ∧ wr.cell? ⟨w.heap.size, 2, none⟩ = some (.int .i64 1) ∧ wr.cell? ⟨w.heap.size, 3, none⟩ = some (.int .i64 1) ∧ wr.cell? ⟨w.heap.size, 4, none⟩ = some (.int .i64 1) ∧ wr.cell? ⟨w.heap.size, 5, none⟩ = some (.int .i64 0)) (with_reducible exact aw.held) (first
        | (go_at_call 14; with_reducible refine aw.words.mono ?_; rintro e w5 ⟨R, rfl, hw, hb⟩; replace aw := aw.below hb)
        | (go_at_call 19; with_reducible refine (awk_list hw hX).mono ?_; rintro e w5 ⟨gg, off, cap, rfl, hb⟩; replace aw := aw.below hb))
      all_goals
        go_wp2
        go_ret
        exact ⟨rfl, aw.bel⟩
end Go.Proofs.Ytcfallaekedmkaa
