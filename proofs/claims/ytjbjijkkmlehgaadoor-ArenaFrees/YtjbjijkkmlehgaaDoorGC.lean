/- A Free alone, step by step: no program in sight. -/
import Derived.Test.YtjbjijkkmlehgaaDoorGB
namespace Go.Proofs.YtjbjijkkmlehgaaDoor
open Go.RowKit
open Mm (MS touched)
open Tg (movedW)
open Hh (okW wordOf)
set_option linter.unusedVariables false

theorem frX_0 {K : Cf} {X : List Nat} {f : Fr} (h : f.pc = 0) : frX K X f = (X, { f with fd := fdW (X.getD (K.hd f.q.sl) 0) K.g, pc := if limboW (X.getD (K.hd f.q.sl) 0) = true then 1 else 3 }) := by unfold frX; rw [if_pos h]
theorem frX_1 {K : Cf} {X : List Nat} {f : Fr} (h : f.pc = 1) : frX K X f = (X.set (K.hd f.q.sl) f.fd, if kdW f.fd = 4 then { f with gone := true, pc := 3 } else { f with pc := 2 }) := by unfold frX; rw [if_neg (by omega), if_pos h]
theorem frX_2 {K : Cf} {X : List Nat} {f : Fr} (h : f.pc = 2) : frX K X f = ((pushX K X f.q).1, if (pushX K X f.q).2.pc = 3 then { f with q := (pushX K X f.q).2, back := true, pc := 3 } else { f with q := (pushX K X f.q).2 }) := by unfold frX; rw [if_neg (by omega), if_neg (by omega), if_pos h]

/-- A Free alone under way: the word that the header had, the list. -/
def FlAt (K : Cf) (tag W s : Nat) (F : List Nat) (X : List Nat) (f : Fr) : Prop :=
  f.q.sl = s ∧ f.back = false ∧ f.gone = false ∧ Top K X tag F ∧ QInv K X tag f.q ∧
  ((f.pc = 0 ∧ f.q.pc = 0 ∧ X.getD (K.hd s) 0 = W) ∨
   (f.pc = 1 ∧ f.q.pc = 0 ∧ limboW W = true ∧ f.fd = fdW W K.g) ∨
   (f.pc = 2 ∧ f.q.pc ≤ 2 ∧ (1 ≤ f.q.pc → X.getD 3 0 = f.q.tp) ∧ limboW W = true ∧ kdW (fdW W K.g) ≠ 4 ∧ X.getD (K.hd s) 0 = fdW W K.g))
/-- How many steps are left, at most. -/
def Fr.left (f : Fr) : Nat := if f.pc = 0 then 5 else if f.pc = 1 then 4 else 3 - f.q.pc
/-- What it comes to. -/
def FlEnd (K : Cf) (tag W s : Nat) (F : List Nat) (X : List Nat) (f : Fr) : Prop :=
  (limboW W = false ∧ f.back = false ∧ f.gone = false ∧ X.getD (K.hd s) 0 = W ∧ Top K X tag F) ∨
  (limboW W = true ∧ kdW (fdW W K.g) = 4 ∧ f.back = false ∧ f.gone = true ∧ X.getD (K.hd s) 0 = fdW W K.g ∧ Top K X tag F) ∨
  (limboW W = true ∧ kdW (fdW W K.g) ≠ 4 ∧ f.back = true ∧ f.gone = false ∧ X.getD (K.hd s) 0 = fdW W K.g ∧ Top K X (tag + 1) (s :: F))
theorem FlAt.step {K : Cf} (hK : K.Ok) {tag W s : Nat} {F X : List Nat} {f : Fr} (h : FlAt K tag W s F X f) (hs : s ∉ F) (hsS : s < K.S) (ht : tag + 1 < 281474976710656) :
    f.pc ≤ 2 ∧ (((frX K X f).2.pc = 3 ∧ FlEnd K tag W s F (frX K X f).1 (frX K X f).2) ∨ ((frX K X f).2.pc ≠ 3 ∧ FlAt K tag W s F (frX K X f).1 (frX K X f).2 ∧ (frX K X f).2.left < f.left)) := by
  have hN := K.hd_lt hsS
  have h4 := K.hd_4 s
  obtain ⟨h1, h2, h3, h5, h6, h7⟩ := h
  rcases h7 with ⟨a1, a2, a3⟩ | ⟨a1, a2, a3, a4⟩ | ⟨a1, a2, a3, a4, a5, a6⟩
  · refine ⟨by omega, ?_⟩
    rw [frX_0 a1, h1, a3]
    by_cases hl : limboW W = true
    · right
      rw [if_pos hl]
      refine ⟨by show 1 ≠ 3; omega, ⟨h1, h2, h3, h5, h6, .inr (.inl ⟨rfl, a2, hl, rfl⟩)⟩, ?_⟩
      unfold Fr.left
      rw [if_pos a1, if_neg (by show ¬ 1 = 0; omega), if_pos rfl]
      omega
    · left
      rw [if_neg hl]
      exact ⟨rfl, .inl ⟨by simpa using hl, h2, h3, a3, h5⟩⟩
  · refine ⟨by omega, ?_⟩
    rw [frX_1 a1, h1, a4]
    have tp := h5.other (i := K.hd s) (by omega) (fun t => K.hd_lk _ _) (fdW W K.g)
    have e1 : (X.set (K.hd s) (fdW W K.g)).getD (K.hd s) 0 = fdW W K.g := by rw [getD_set, if_pos ⟨rfl, by rw [h5.len]; exact hN⟩]
    by_cases hk : kdW (fdW W K.g) = 4
    · left
      rw [if_pos hk]
      exact ⟨rfl, .inr (.inl ⟨a3, hk, h2, rfl, e1, tp⟩)⟩
    · right
      rw [if_neg hk]
      refine ⟨by show 2 ≠ 3; omega, ⟨h1, h2, h3, tp, ?_, .inr (.inr ⟨rfl, by show f.q.pc ≤ 2; omega, (fun h => by have : 1 ≤ f.q.pc := h; omega), a3, hk, e1⟩)⟩, ?_⟩
      · exact h6.other (H := []) (.inr (.inr (.inl ⟨_, _, by omega, fun t => K.hd_lk _ _, rfl, rfl⟩))) (by simp)
      · have e0 : f.left = 4 := by unfold Fr.left; rw [if_neg (by omega), if_pos a1]
        rw [e0]
        unfold Fr.left
        rw [if_neg (by show ¬ 2 = 0; omega), if_neg (by show ¬ 2 = 1; omega)]
        omega
  · refine ⟨by omega, ?_⟩
    rw [frX_2 a1]
    have hl0 : f.left = 3 - f.q.pc := by unfold Fr.left; rw [if_neg (by omega), if_neg (by omega)]
    have hh3 : K.hd s ≠ 3 := by omega
    rcases pushCases hK h5 h6 (by rw [h1]; exact hs) (by rw [h1]; exact hsS) ht with ⟨b1, b2, b3, b4, b5⟩ | ⟨b1, ⟨v, b2⟩, b3⟩
    · right
      simp only [if_neg (show ¬ (pushX K X f.q).2.pc = 3 by omega)]
      have e1 : (pushX K X f.q).1.getD (K.hd s) 0 = X.getD (K.hd s) 0 := by
        rcases b5 with e | ⟨v, e⟩
        · rw [e]
        · rw [e, getD_set, if_neg (fun h => K.hd_lk s f.q.sl h.1.symm)]
      rcases (show f.q.pc = 0 ∨ f.q.pc = 1 ∨ f.q.pc = 2 by omega) with e | e | e
      · have ep := pushX_0 (K := K) (X := X) e
        rw [ep] at b1 b2 b3 b4 e1 ⊢
        refine ⟨by show f.pc ≠ 3; omega, ⟨h1, h2, h3, b4, b3, .inr (.inr ⟨a1, by show 1 ≤ 2; omega, fun _ => rfl, a4, a5, a6⟩)⟩, ?_⟩
        rw [hl0]
        unfold Fr.left
        rw [if_neg (by show ¬ f.pc = 0; omega), if_neg (by show ¬ f.pc = 1; omega)]
        show 3 - 1 < 3 - f.q.pc
        omega
      · have ep := pushX_1 (K := K) (X := X) e
        have hT := a3 (by omega)
        rw [ep] at b1 b2 b3 b4 e1 ⊢
        refine ⟨by show f.pc ≠ 3; omega, ⟨h1, h2, h3, b4, b3, .inr (.inr ⟨a1, by show 2 ≤ 2; omega, fun _ => ?_, a4, a5, e1.trans a6⟩)⟩, ?_⟩
        · show (X.set (K.lk f.q.sl) _).getD 3 0 = f.q.tp
          rw [getD_set, if_neg (by have := K.lk_4 f.q.sl; omega)]
          exact hT
        · rw [hl0]
          unfold Fr.left
          rw [if_neg (by show ¬ f.pc = 0; omega), if_neg (by show ¬ f.pc = 1; omega)]
          show 3 - 2 < 3 - f.q.pc
          omega
      · have ep := pushX_2 (K := K) (X := X) e (a3 (by omega))
        rw [ep] at b1
        have : 3 ≤ 2 := b1
        omega
    · left
      rw [if_pos b1]
      refine ⟨rfl, .inr (.inr ⟨a4, a5, rfl, h3, ?_, by rw [h1] at b3; exact b3⟩)⟩
      show (pushX K X f.q).1.getD (K.hd s) 0 = _
      rw [b2, getD_set, if_neg (by omega)]
      exact a6

/-- Beside a law's own blocks. -/
structure FlW (w wr : World) (K : Cf) (M G Q : Nat) (X : List Nat) (T : Int) (f : Fr) : Prop where
  ds : Ds w wr K M G X T
  fr : FrIn wr K Q f
  ok : f.Ok K
  ap : Q ≠ M ∧ Q ≠ G
  hi : w.heap.size + 2 ≤ Q ∧ w.heap.size + 2 ≤ M ∧ w.heap.size + 2 ≤ G
theorem FlW.step {w wr : World} {K : Cf} (hK : K.Ok) {M G Q : Nat} {X : List Nat} {T : Int} {f : Fr} (h : FlW w wr K M G Q X T f) (hl : X.length = K.N) (ht : 0 ≤ T ∧ T + 1 < 4611686018427387904) (h2 : f.pc ≤ 2) :
    Calls Tryd.prog 26 #[.pointer (some ⟨Q, 0, none⟩), .pointer (some ⟨M, 0, none⟩)] wr fun r w' => r = .returned (.bool (decide ((frX K X f).2.pc = 3))) ∧ FlW w w' K M G Q (frX K X f).1 (T + 1) (frX K X f).2 ∧ Chg [Q, M, G] wr w' := by
  have ap := h.ap
  have hi := h.hi
  exact (fr_step hK h.ds.mem h.ds.wt hl ht (by omega) h.fr h.ok h2 (by omega)).mono fun r w' ⟨h1, h3, h4, h5, h6⟩ => ⟨h1, ⟨h.ds.chg h6 (by omega) h3 h5, h4, frX_ok h.ok h2 (fun i => h.ds.mem.fits i), ap, hi⟩, h6⟩
theorem FlW.below {w wr w1 : World} {K : Cf} {M G Q : Nat} {X : List Nat} {T : Int} {f : Fr} (h : FlW w wr K M G Q X T f) (b : Below wr.heap.size wr w1) : FlW w w1 K M G Q X T f := ⟨h.ds.below b, h.fr.below b, h.ok, h.ap, h.hi⟩
end Go.Proofs.YtjbjijkkmlehgaaDoor
/- The law of a slot with any header that is freed, walked. -/
namespace Go.Proofs.YtjbjijkkmlehgaaDoor
open Go.RowKit
open Mm (IsMem MS touched Only IsWords zeroMS)
open Hh (WT wordOf okW Hr)
set_option linter.unusedVariables false

theorem hd_chg {L : List Nat} {w w' : World} {b : Nat} {k m : Int} {g : Bool} {a n s : Int} (h : Hh.IsHd w b k m g a n s) (c : Chg L w w') (hn : b ∉ L) : Hh.IsHd w' b k m g a n s := c.at h hn
theorem hd_lt {w : World} {b : Nat} {k m : Int} {g : Bool} {a n s : Int} (h : Hh.IsHd w b k m g a n s) : b < w.heap.size := lt_of_block h
theorem AlW.step2 {w wr : World} {K : Cf} (hK : K.Ok) {M G P : Nat} {X : List Nat} {T : Int} {m : Mk} (h : AlW w wr K M G P X T m) (hl : X.length = K.N) (ht : 0 ≤ T ∧ T + 1 < 4611686018427387904) (h3 : m.pc ≤ 3) :
    Calls Tryd.prog 20 #[.pointer (some ⟨P, 0, none⟩), .pointer (some ⟨M, 0, none⟩)] wr fun r w' => r = .returned (.bool (decide ((mkX K X m).2.pc = 4))) ∧ AlW w w' K M G P (mkX K X m).1 (T + 1) (mkX K X m).2 ∧ Chg [P, M, G] wr w' := by
  have ap := h.ap
  have hi := h.hi
  have hM := h.ds.hM
  have hG := h.ds.hG
  refine (mk_step hK h.ds.mem h.ds.wt hl ht (by omega) h.ma h.fit.ok h3 (by omega) (by omega)).mono fun r w' ⟨h1, h2, h4, h5, h6⟩ => ⟨h1, ?_, h6⟩
  exact ⟨h.ds.chg h6 hi h2 h5, h4, mkX_fit h.fit h3 (fun i => h.ds.mem.fits i), by rw [(mkX_body K X m).1]; exact ap, hi⟩
theorem fs_held {wr : World} {K : Cf} {Q R L v b : Nat} {X : List Nat} {f : Fr} {bb gn : Bool} {k m : Int} {g : Bool} {a n s : Int} (hd : Hh.IsHd wr b k m g a n s) (fr : FrIn wr K Q f) (hb : f.back = bb) (hg : f.gone = gn) (hR : IsWords wr R X) (hL : L < X.length) (hX : X.getD L 0 = v) :
    (wr.cell? ⟨b, 0, none⟩ = some (.int .i64 k) ∧ wr.cell? ⟨b, 1, none⟩ = some (.int .i64 m) ∧ wr.cell? ⟨b, 2, none⟩ = some (.bool g) ∧ wr.cell? ⟨b, 3, none⟩ = some (.int .i64 a) ∧ wr.cell? ⟨b, 4, none⟩ = some (.int .i64 n) ∧ wr.cell? ⟨b, 5, none⟩ = some (.int .i64 s)) ∧ wr.cell? ⟨Q, 0, none⟩ = some (.bool bb) ∧ wr.cell? ⟨Q, 1, none⟩ = some (.bool gn) ∧ wr.cell? ⟨R, L, none⟩ = some (.int .u64 (v : Nat)) := by
  obtain ⟨h1, h2⟩ := fr.cells
  rw [hb] at h1
  rw [hg] at h2
  refine ⟨hd.cells, h1, h2, ?_⟩
  rw [← hX]
  exact Mm.words_at hR L hL
theorem ds_store {w wr : World} {K : Cf} {M G : Nat} {X : List Nat} {T : Int} (h : Ds w wr K M G X T) {i v : Nat} (hi : i < X.length) (hv : v < 18446744073709551616) (ht : 0 ≤ T ∧ T < 4611686018427387904) :
    Calls Tryd.prog 24 #[.pointer (some ⟨M, 0, none⟩), .int .i64 (i : Nat), .int .u64 (v : Nat)] wr fun e w' => e = .returned (.bool true) ∧ Ds w w' K M G (X.set i v) (T + 1) ∧ Chg [M, G] wr w' := by
  have hM := h.hM
  have hG := h.hG
  refine (storeX h.mem hi hv ht).mono fun e w' ⟨h1, h2, h3⟩ => ⟨h1, ?_, Chg.of_only h3 (by simp) (by simp)⟩
  have ch : Chg [M, M, G] wr w' := Chg.of_only h3 (by simp) (by simp)
  exact h.chg ch (by omega) h2 (WT.chg h.wt ch (by simp; omega))
/-- What a right header's word is freed to. -/
theorem limbo_word {K M : Nat} (g : Bool) {A N S : Nat} (h : Hr K M A N S) : limboW (wordOf K M g.toNat A N S) = decide (K = 3) := by
  unfold limboW
  rw [Hh.okW_word g h, (Hh.word_parts g h).1]
  simp
theorem fd_free {M : Nat} (g : Bool) {A N S : Nat} (h : Hr 3 M A N S) {x : Int} (hx : (N : Int) + 1 < x) (h40 : x ≤ 40) : fdW (wordOf 3 M g.toNat A N S) x = wordOf 0 0 (false : Bool).toNat 0 (N + 1) 0 ∧ kdW (wordOf 0 0 (false : Bool).toNat 0 (N + 1) 0) = 0 := by
  have hl := limbo_word g h
  obtain ⟨p0, _, _, _, _, p5, _, _⟩ := Hh.word_parts g h
  have hr : Hr 0 0 0 (N + 1) 0 := ⟨by omega, by omega, by omega, by omega, by omega⟩
  refine ⟨?_, ?_⟩
  · unfold fdW
    rw [hl, if_pos (by rfl), p5, if_pos ⟨by omega, hx⟩]
  · unfold kdW
    rw [Hh.okW_word false hr, if_pos rfl]
    exact (Hh.word_parts false hr).1
theorem fd_dead {M : Nat} (g : Bool) {A N S : Nat} (h : Hr 3 M A N S) {x : Int} (hx : ¬ (N : Int) + 1 < x) : fdW (wordOf 3 M g.toNat A N S) x = wordOf 4 M g.toNat A N S ∧ kdW (wordOf 4 M g.toNat A N S) = 4 := by
  have hl := limbo_word g h
  obtain ⟨p0, _, _, _, _, p5, _, _⟩ := Hh.word_parts g h
  have hr : Hr 4 M A N S := ⟨by omega, h.m, h.a, h.n, h.s⟩
  refine ⟨?_, ?_⟩
  · unfold fdW
    rw [hl, if_pos (by rfl), p5, if_neg (fun e => hx e.2)]
    unfold wordOf; omega
  · unfold kdW
    rw [Hh.okW_word g hr, if_pos rfl]
    exact (Hh.word_parts g hr).1
theorem rat_header {K : Cf} (hK : K.Ok) {s : Nat} (hs : s < K.S) (w : World) :
    Calls Tryd.prog 23 #[.agg K.cs, .agg #[.string ⟨#[104, 101, 97, 100, 101, 114]⟩, .int .i64 (s : Nat), .int .i64 0]] w fun e w' => e = .returned (.int .i64 (K.hd s : Nat)) ∧ Below w.heap.size w w' :=
  at_yes hK.r hK.b hK.b8 8 s 0 (K.hd s) (by omega) (K.hd_lt hs) (wat_header K.C K.D K.B s) w
theorem rlist_X {w : World} {K : Cf} (hK : K.Ok) {R : Nat} {X : List Nat} {tag : Nat} {F : List Nat} (hw : IsWords w R X) (tp : Top K X tag F) (hX : ∀ i, X.getD i 0 < 18446744073709551616) :
    Calls Tryd.prog 14 #[.agg K.cs, .slice (some ⟨R, 0, none⟩) K.N K.N] w fun e w' => ∃ v, e = .returned v ∧ IsI w' v F ∧ (∀ g, v.ownBlock = some g → w.heap.size ≤ g) ∧ Below w.heap.size w w' := by
  have c := rlist_yes hK (cap := K.N) (RdW.of_words hw) tp.len hX
  rw [tp.list] at c
  exact c

set_option maxRecDepth 100000 in
set_option maxHeartbeats 8000000 in
theorem frees_law (s a c d g k : Int) (kk mm : Int) (gg : Bool) (aa nn ss : Int) (hin : Hh.In64 kk ∧ Hh.In64 mm ∧ Hh.In64 aa ∧ Hh.In64 nn ∧ Hh.In64 ss) (w : World) (hw : WT w) :
    Calls Tryd.prog 5 #[.agg (cs s a c d g k), .agg #[.int .i64 kk, .int .i64 mm, .bool gg, .int .i64 aa, .int .i64 nn, .int .i64 ss]] w fun e w' => e = .returned (.bool true) ∧ Below w.heap.size w w' := by
  have cf := Fit_any s a c d g k
  have c22 := fun w => Hh.right_any kk mm gg aa nn ss w
  have b1 := alloc_below w (.cells #[.int .i64 s, .int .i64 a, .int .i64 c, .int .i64 d, .int .i64 g, .int .i64 k] 23)
  have hh := cfg_new w s a c d g k
  have hz : (w.alloc (.cells #[.int .i64 s, .int .i64 a, .int .i64 c, .int .i64 d, .int .i64 g, .int .i64 k] 23)).heap.size = w.heap.size + 1 := by simp
  have b2 := alloc_below (w.alloc (.cells #[.int .i64 s, .int .i64 a, .int .i64 c, .int .i64 d, .int .i64 g, .int .i64 k] 23)) (.cells #[.int .i64 kk, .int .i64 mm, .bool gg, .int .i64 aa, .int .i64 nn, .int .i64 ss] 48)
  have hd := Hh.hd_new (w.alloc (.cells #[.int .i64 s, .int .i64 a, .int .i64 c, .int .i64 d, .int .i64 g, .int .i64 k] 23)) kk mm gg aa nn ss
  rw [hz] at hd
  have hW0 := hw.lt
  have bel := seq_below b1 b2
  replace hw := (hw.below b1).below b2
  replace hh := hh.below b2
  clear b1 b2 hz
  go_enter Tryd.func5, Tryd.ntmps5
  go_upto_region 1 with fail
  generalize (w.alloc (.cells #[.int .i64 s, .int .i64 a, .int .i64 c, .int .i64 d, .int .i64 g, .int .i64 k] 23)).alloc (.cells #[.int .i64 kk, .int .i64 mm, .bool gg, .int .i64 aa, .int .i64 nn, .int .i64 ss] 48) = w1 at *
  obtain ⟨l0, l1, l2, l3, l4, l5⟩ := hh.cells
  go_upto_region 2 with (first
    | (go_at_call 8; refine (cf _).mono ?_; rintro e w2 ⟨⟨s', a', c', d', g', k', rfl, hs, ha, hc, hd', hg, hk⟩, b⟩; replace bel := seq_below bel b; replace hh := hh.below b; replace hw := hw.below b; replace hd := hd.below b; obtain ⟨l0, l1, l2, l3, l4, l5⟩ := hh.cells; have y0 := hh.free 0; have y1 := hh.free 1; have y2 := hh.free 2; have y3 := hh.free 3; have y4 := hh.free 4; have y5 := hh.free 5))
  have h3 := cfg_stored6 hh s' a' c' d' g' k'
  have bel3 := below_stored6 bel (Nat.le_refl w.heap.size) (.int .i64 s') (.int .i64 a') (.int .i64 c') (.int .i64 d') (.int .i64 g') (.int .i64 k')
  have hw3 := ((((((hw.set (o := 0) hW0 (.int .i64 s')).set (o := 1) hW0 (.int .i64 a')).set (o := 2) hW0 (.int .i64 c')).set (o := 3) hW0 (.int .i64 d')).set (o := 4) hW0 (.int .i64 g')).set (o := 5) hW0 (.int .i64 k'))
  have ch3 : Chg [w.heap.size] w2 _ := ((((((Chg.refl [w.heap.size] w2).setCell (b := w.heap.size) (o := 0) (by simp) (.int .i64 s')).setCell (b := w.heap.size) (o := 1) (by simp) (.int .i64 a')).setCell (b := w.heap.size) (o := 2) (by simp) (.int .i64 c')).setCell (b := w.heap.size) (o := 3) (by simp) (.int .i64 d')).setCell (b := w.heap.size) (o := 4) (by simp) (.int .i64 g')).setCell (b := w.heap.size) (o := 5) (by simp) (.int .i64 k')
  have hd3 := hd_chg hd ch3 (by simp)
  clear l0 l1 l2 l3 l4 l5 y0 y1 y2 y3 y4 y5 hh bel cf hw hd ch3
  generalize ((((((w2.setCell ⟨w.heap.size, 0, none⟩ (.int .i64 s')).setCell ⟨w.heap.size, 1, none⟩ (.int .i64 a')).setCell ⟨w.heap.size, 2, none⟩ (.int .i64 c')).setCell ⟨w.heap.size, 3, none⟩ (.int .i64 d')).setCell ⟨w.heap.size, 4, none⟩ (.int .i64 g')).setCell ⟨w.heap.size, 5, none⟩ (.int .i64 k')) = w3 at *
  have hr : rightB s' a' c' d' g' k' = true := rightB_iff.2 (by omega)
  clear hc hd' hk ha
  obtain ⟨K, hK, rfl, rfl, rfl, rfl, rfl, rfl⟩ := Cf.of_right hr
  have c9 := memory_yes hK.r hK.b hK.b8 hK.c8 hK.d16 hK.s64 hK.s1 hK.d1
  rw [show zeroMS (memX K.C K.D K.B (nW K.C K.D K.B K.S) (K.S - 1)) = memK0 K from rfl] at c9
  have hb3 := hK.b3
  have hb8 := hK.b8
  have hh := h3
  have bel := bel3
  have hw := hw3
  have hd := hd3
  clear h3 bel3 hr hw3 hd3
  have hS1 := hK.s1
  have hS12 : K.S ≤ 12 := by omega
  have ha0 : 0 ≤ K.a := (rightB_iff.1 hK.r).2.1.1
  have c19 : ∀ w, Calls Tryd.prog 19 #[.agg K.cs, .int .i64 1, .int .i64 0, .int .u64 0, .slice none 0 0] w fun e w' => ∃ P R c, e = .returned (.pointer (some ⟨P, 0, none⟩)) ∧ NewBlk w w' P c 60 ∧ MkAt c K (mk0 1 0 0 R K.B []) ∧ IsWords w' R (fillW K.B []) ∧ w.heap.size ≤ R ∧ R ≠ P := fun w => newMake_yes (w := w) (ad := none) (n := 0) (cap := 0) (Y := []) hK 1 0 0 (by simp [mayB, ha0]) (fun i hi => by simp at hi) rfl (by omega)
  have c21 : ∀ w, Calls Tryd.prog 21 #[.agg K.cs, .int .i64 0] w fun e w' => ∃ P c, e = .returned (.pointer (some ⟨P, 0, none⟩)) ∧ NewBlk w w' P c 72 ∧ FrAt c K ⟨false, false, ⟨0, 0, 0⟩, 0, 0⟩ := fun w => newFree_yes hK (s := 0) (by omega) w
  have c23 : ∀ w, Calls Tryd.prog 23 #[.agg K.cs, .agg #[.string ⟨#[104, 101, 97, 100, 101, 114]⟩, .int .i64 0, .int .i64 0]] w fun e w' => e = .returned (.int .i64 (K.hd 0 : Nat)) ∧ Below w.heap.size w w' := rat_header hK (s := 0) (by omega)
  obtain ⟨l0, l1, l2, l3, l4, l5⟩ := hh.cells
  unfold Cf.cs at *
  go_upto_region 3 with (first
    | (go_at_call 9; refine (c9 _).mono ?_; rintro e w4 ⟨M, G, rfl, hm, hM, hG, hb⟩))
  have hlt := lt_of_block hd
  have hsz := hb.size
  have ds : Ds w w4 K M G (memK0 K).X 0 := ⟨⟨_, hm, rfl, rfl⟩, hh.below hb, seq_below bel hb, hw.below hb, by omega, by omega⟩
  have hMG : w.heap.size + 2 ≤ M ∧ w.heap.size + 2 ≤ G := by omega
  replace hd := hd.below hb
  clear hm hh bel hw hM hG hlt hsz hb c9 l0 l1 l2 l3 l4 l5
  have HT : Hid (Top K (memK0 K).X 0 (0 :: List.range' 1 (K.S - 1))) := by
    have t := top_new hK
    rw [show K.S = (K.S - 1) + 1 by omega, List.range'_succ] at t
    exact t
  have hFn : Hid (0 ∉ List.range' 1 (K.S - 1) ∧ (List.range' 1 (K.S - 1)).length ≤ 65536) := ⟨by rw [List.mem_range'_1]; omega, by simp; omega⟩
  generalize List.range' 1 (K.S - 1) = F at *
  have cds : ∀ wr X T, Ds w wr K M G X T → wr.cell? ⟨w.heap.size, 0, none⟩ = some (.int .i64 (K.S : Nat)) ∧ wr.cell? ⟨w.heap.size, 1, none⟩ = some (.int .i64 K.a) ∧ wr.cell? ⟨w.heap.size, 2, none⟩ = some (.int .i64 (K.C : Nat)) ∧ wr.cell? ⟨w.heap.size, 3, none⟩ = some (.int .i64 (K.D : Nat)) ∧ wr.cell? ⟨w.heap.size, 4, none⟩ = some (.int .i64 K.g) ∧ wr.cell? ⟨w.heap.size, 5, none⟩ = some (.int .i64 K.k) := fun wr X T x => x.cfg.cells
  replace cds : Hid _ := cds
  replace ds := ds.drew
  replace hd := hd.below (Below.refl _ _).drew
  go_region_held (fun wr => wr.cell? ⟨w.heap.size, 0, none⟩ = some (.int .i64 (K.S : Nat)) ∧ wr.cell? ⟨w.heap.size, 1, none⟩ = some (.int .i64 K.a) ∧ wr.cell? ⟨w.heap.size, 2, none⟩ = some (.int .i64 (K.C : Nat)) ∧ wr.cell? ⟨w.heap.size, 3, none⟩ = some (.int .i64 (K.D : Nat)) ∧ wr.cell? ⟨w.heap.size, 4, none⟩ = some (.int .i64 K.g) ∧ wr.cell? ⟨w.heap.size, 5, none⟩ = some (.int .i64 K.k)) (with_reducible exact cds.out _ _ _ ds) (first
    | (go_at_call 19; with_reducible refine (c19 _).mono ?_; rintro e w5 ⟨P, R, cP, rfl, nP, aP, rP, hR, hRP⟩; have hd0 := hd_lt hd; replace hd := hd.below nP.bel; have al := AlW.new hK ds nP aP rP hR hRP (.inl rfl) (by omega) (by omega) (fun i => by simp); clear ds; have ds := al.ds)
    | (go_at_call 21; with_reducible refine (c21 _).mono ?_; rintro e w6 ⟨Q, cQ, rfl, nQ, aQ⟩; have hPl := al.ma.lt; have hdl := hd_lt hd; have hMl := ds.mem.lt; replace hd := hd.below nQ.bel; replace al := al.below nQ.bel; clear ds; have ds := al.ds))
  have fr : FrIn w6 K Q ⟨false, false, ⟨0, 0, 0⟩, 0, 0⟩ := ⟨cQ, nQ.blk, aQ⟩
  have nQn := nQ.new
  have hQ : Q ≠ M ∧ Q ≠ G ∧ Q ≠ P ∧ Q ≠ w.heap.size + 1 ∧ w.heap.size + 2 ≤ Q := by omega
  have hPn := nP.new
  have hPd : P ≠ w.heap.size + 1 := by omega
  clear nQ aQ nQn hPl hdl hMl nP aP rP hR hRP c19 c21 hPn hd0 ds
  have HA : Hid (AlAt K 0 0 F 0 (memK0 K).X (mk0 1 0 0 R K.B [])) := .inl ⟨by omega, rfl, rfl, HT.out, (fun h => by omega), pop0_inv K _ 0, rfl⟩
  clear HT
  cases hrt : Hh.rightH kk mm aa nn ss with
  | false =>
    rw [hrt] at c22
    have wt := al.ds.wt
    have bel := al.ds.bel
    obtain ⟨l0, l1, l2, l3, l4, l5⟩ := hd.cells
    clear HA al fr hd cds hFn
    go_wp2_with (first
      | (go_at_call 22; refine (c22 _).mono ?_; rintro e w7 ⟨rfl, hb⟩; replace wt := wt.below hb; replace bel := seq_below bel hb)
      | (go_at_call 10; refine (awake_any _ wt).mono ?_; rintro e w8 ⟨rfl, hb⟩; replace bel := seq_below bel hb))
    go_ret
    exact ⟨rfl, bel⟩
  | true =>
    rw [hrt] at c22
    obtain ⟨hkN, hmN, haN, hnN, hsN, hr, rfl, rfl, rfl, rfl, rfl⟩ := Hh.right_parts hrt
    clear hrt hin
    have c25 : ∀ w, Calls Tryd.prog 25 #[.agg #[.int .i64 (hkN : Nat), .int .i64 (hmN : Nat), .bool gg, .int .i64 (haN : Nat), .int .i64 (hnN : Nat), .int .i64 (hsN : Nat)]] w fun e w' => e = .returned (.int .u64 ((wordOf hkN hmN gg.toNat haN hnN hsN : Nat) : Int)) ∧ Below w.heap.size w w' := fun w => Hh.rpack_any hkN hmN gg haN hnN hsN hr.k hr.m hr.a hr.n hr.s w
    have hWlt : wordOf hkN hmN gg.toNat haN hnN hsN < 18446744073709551616 := (Hh.word_parts gg hr).2.2.2.2.2.2.2
    obtain ⟨V, hV⟩ : ∃ V, wordOf hkN hmN gg.toNat haN hnN hsN = V := ⟨_, rfl⟩
    rw [hV] at c25 hWlt
    replace hV : Hid (wordOf hkN hmN gg.toNat haN hnN hsN = V) := hV
    obtain ⟨l0, l1, l2, l3, l4, l5⟩ := hd.cells
    go_upto_region 6 with (first
      | (go_at_call 22; refine (c22 _).mono ?_; rintro e w7 ⟨rfl, hb⟩; replace al := al.below hb; replace fr := fr.below hb; replace hd := hd.below hb; clear hb l0 l1 l2 l3 l4 l5))
    clear c22
    generalize (memK0 K).X = X0 at *
    generalize mk0 1 0 0 R K.B [] = m0 at *
    go_wp2
    go_loopw [8] (fun i wr => ∃ (j : Nat) (X : List Nat) (T' : Int) (m : Mk), j ≤ 4 + K.B ∧ i = .int .i64 (j : Nat) ∧ (0 ≤ T' ∧ T' ≤ j) ∧ Hid (AlAt K 0 0 F j X m) ∧ AlW w wr K M G P X T' m ∧ FrIn wr K Q ⟨false, false, ⟨0, 0, 0⟩, 0, 0⟩ ∧ Hh.IsHd wr (w.heap.size + 1) (hkN : Nat) (hmN : Nat) gg (haN : Nat) (hnN : Nat) (hsN : Nat)) (fun i _ => 20 - (intOf i).toNat)
    case atStart => exact ⟨0, X0, 0, m0, by omega, rfl, by omega, HA, al, fr, hd⟩
    case round =>
      clear al HA fr hd
      obtain ⟨j, X1, T1, m, hj, rfl, hT1, HA, al, fr, hd⟩ := hrel
      have hst1 := HA.out.step hK al.fit (by omega) (by omega)
      have hlen : X1.length = K.N := by
        rcases HA.out with h | h | h | h | h
        · exact h.2.2.2.1.len
        · exact h.2.2.2.2.len
        · exact h.2.2.2.2.2.len
        · exact h.2.2.2.len
        · exact h.2.2.2.2.len
      have c20 := al.step2 hK hlen (by omega) hst1.2.1
      have hj40 : (j : Int) < 40 := by omega
      have ed : decide ((mkX K X1 m).2.pc = 4) = decide (j = 4 + K.B) := decide_eq_decide.2 hst1.2.2
      rw [ed] at c20
      have HA2 : Hid _ := hst1.1
      have kp : Hid (∀ w', Chg [P, M, G] wr w' → FrIn w' K Q ⟨false, false, ⟨0, 0, 0⟩, 0, 0⟩ ∧ Hh.IsHd w' (w.heap.size + 1) (hkN : Nat) (hmN : Nat) gg (haN : Nat) (hnN : Nat) (hsN : Nat)) := fun w' ch => ⟨fr.chg ch (by simp; omega), hd_chg hd ch (by simp; omega)⟩
      clear hst1 hlen HA al ed fr hd
      by_cases hje : j = 4 + K.B
      · rw [decide_eq_true hje] at c20
        replace hje : Hid (j = 4 + K.B) := hje
        go_upto_region 9 with (go_at_call 20; refine c20.mono ?_; rintro e w8 ⟨rfl, al, ch⟩)
        obtain ⟨fr, hd⟩ := kp.out _ ch
        clear c20 kp ch
        rcases HA2.out with h | h | h | h | ⟨h1, h2, h3, h4, h5⟩
        · have := hje.out; omega
        · have := hje.out; omega
        · have := hje.out; omega
        · have := hje.out; omega
        have HT : Hid (Top K (mkX K X1 m).1 1 F) := h5
        have ds := al.ds
        have hT9 : 0 ≤ T1 + 1 ∧ T1 + 1 ≤ 20 := by have := hje.out; omega
        clear HA2 h1 h2 h3 h4 h5 al hj40 hj hje hT1
        generalize (mkX K X1 m).1 = X2 at *
        generalize T1 + 1 = T2 at *
        obtain ⟨l0, l1, l2, l3, l4, l5⟩ := cds.out _ _ _ ds
        obtain ⟨m0, m1, m2, m3, m4, m5⟩ := hd.cells
        have hLN := K.hd_lt (s := 0) (by omega)
        have c24 : Hid (∀ wr, Ds w wr K M G X2 T2 → Calls Tryd.prog 24 #[.pointer (some ⟨M, 0, none⟩), .int .i64 (K.hd 0 : Nat), .int .u64 (V : Nat)] wr fun e w' => e = .returned (.bool true) ∧ Ds w w' K M G (X2.set (K.hd 0) V) (T2 + 1) ∧ Chg [M, G] wr w') := fun wr x => ds_store x (by rw [HT.out.len]; exact hLN) hWlt (by omega)
        have HT2 : Hid (Top K (X2.set (K.hd 0) V) 1 F) := HT.out.other (by have := K.hd_4 0; omega) (fun t => K.hd_lk _ _) V
        have HX2 : Hid ((X2.set (K.hd 0) V).getD (K.hd 0) 0 = V) := by
          show _ = _
          rw [getD_set, if_pos ⟨rfl, by rw [HT.out.len]; exact hLN⟩]
        have hNb := hK.N_b
        obtain ⟨L, hLe'⟩ : ∃ L, K.hd 0 = L := ⟨_, rfl⟩
        rw [hLe'] at c24 HT2 HX2 hLN c23
        have hLe : Hid (L = K.hd 0) := hLe'.symm
        clear hLe'
        go_upto_region 11 with (first
          | (go_at_call 23; refine (c23 _).mono ?_; rintro e w9 ⟨rfl, hb⟩; replace ds := ds.below hb; replace fr := fr.below hb; replace hd := hd.below hb; clear hb l0 l1 l2 l3 l4 l5 m0 m1 m2 m3 m4 m5; obtain ⟨l0, l1, l2, l3, l4, l5⟩ := cds.out _ _ _ ds; obtain ⟨m0, m1, m2, m3, m4, m5⟩ := hd.cells)
          | (go_at_call 25; refine (c25 _).mono ?_; rintro e w10 ⟨rfl, hb⟩; replace ds := ds.below hb; replace fr := fr.below hb; replace hd := hd.below hb; clear hb l0 l1 l2 l3 l4 l5 m0 m1 m2 m3 m4 m5; obtain ⟨l0, l1, l2, l3, l4, l5⟩ := cds.out _ _ _ ds; obtain ⟨m0, m1, m2, m3, m4, m5⟩ := hd.cells)
          | (go_at_call 24; refine (c24.out _ ds).mono ?_; rintro e w11 ⟨rfl, ds2, ch⟩; have fr2 := fr.chg ch (by simp; omega); have hd2 := hd_chg hd ch (by simp; omega); clear ds fr hd l0 l1 l2 l3 l4 l5 m0 m1 m2 m3 m4 m5 ch; have ds := ds2; have fr := fr2; have hd := hd2; clear ds2 fr2 hd2))
        clear c24 c23 HT
        generalize X2.set L V = X3 at *
        generalize hT3 : T2 + 1 = T3 at *
        replace ds := ds.drew
        replace fr := fr.below (Below.refl _ _).drew
        replace hd := hd.below (Below.refl _ _).drew
        have cW : Hid (∀ wr X T tag F, Ds w wr K M G X T → Top K X tag F → Calls Tryd.prog 13 #[.pointer (some ⟨M, 0, none⟩)] wr fun e w' => ∃ R, e = .returned (.slice (some ⟨R, 0, none⟩) K.N K.N) ∧ IsWords w' R X ∧ (∀ i, X.getD i 0 < 18446744073709551616) ∧ wr.heap.size ≤ R ∧ Below wr.heap.size wr w') := fun wr X T tag F x tp => (wordsX x.mem tp.len (by omega)).mono fun e w' ⟨R, h1, h2, h3, h4⟩ => ⟨R, h1, h2, fun i => x.mem.fits i, h3, h4⟩
        have cL : Hid (∀ wr R X tag F, IsWords wr R X → Top K X tag F → (∀ i, X.getD i 0 < 18446744073709551616) → Calls Tryd.prog 14 #[.agg #[.int .i64 (K.S : Nat), .int .i64 K.a, .int .i64 (K.C : Nat), .int .i64 (K.D : Nat), .int .i64 K.g, .int .i64 K.k], .slice (some ⟨R, 0, none⟩) K.N K.N] wr fun e w' => ∃ v, e = .returned v ∧ IsI w' v F ∧ (∀ g, v.ownBlock = some g → wr.heap.size ≤ g) ∧ Below wr.heap.size wr w') := fun wr R X tag F h tp hX => rlist_X hK h tp hX
        go_region_held (fun wr => wr.cell? ⟨w.heap.size, 0, none⟩ = some (.int .i64 (K.S : Nat)) ∧ wr.cell? ⟨w.heap.size, 1, none⟩ = some (.int .i64 K.a) ∧ wr.cell? ⟨w.heap.size, 2, none⟩ = some (.int .i64 (K.C : Nat)) ∧ wr.cell? ⟨w.heap.size, 3, none⟩ = some (.int .i64 (K.D : Nat)) ∧ wr.cell? ⟨w.heap.size, 4, none⟩ = some (.int .i64 K.g) ∧ wr.cell? ⟨w.heap.size, 5, none⟩ = some (.int .i64 K.k)) (with_reducible exact cds.out _ _ _ ds) (first
          | (go_at_call 13; with_reducible refine (cW.out _ _ _ _ _ ds HT2.out).mono ?_; rintro e w12 ⟨R1, rfl, hR1, hX3, hRl, hb⟩; replace ds := ds.below hb; replace fr := fr.below hb; replace hd := hd.below hb)
          | (go_at_call 14; with_reducible refine (cL.out _ _ _ _ _ hR1 HT2.out hX3).mono ?_; rintro e w13 ⟨v1, rfl, i1, hv1, hb⟩; have q1 := hd_lt hd; have q2 := fr.lt; have q3 := ds.mem.lt; replace ds := ds.below hb; replace fr := fr.below hb; replace hd := hd.below hb))
        have hv1b : Hid (∀ r, v1.ownBlock = some r → r ≠ Q ∧ r ≠ M ∧ r ≠ G) := fun r h => by have := hv1 r h; omega
        have hv1c : Hid (∀ r, v1.ownBlock = some r → r ≠ w.heap.size + 1) := fun r h => by have := hv1 r h; omega
        clear hv1 q1 q2 q3 hR1 hRl hb hX3
        have flw : FlW w w13 K M G Q X3 T3 ⟨false, false, ⟨0, 0, 0⟩, 0, 0⟩ := ⟨ds, fr, ⟨⟨by show 0 ≤ 3; omega, by show 0 < 18446744073709551616; omega, by show 0 < K.S; omega⟩, by show 0 ≤ 3; omega, fun _ => by show 0 ≤ 2; omega, by show 0 < 18446744073709551616; omega⟩, by omega, by omega⟩
        have HF : Hid (FlAt K 1 V 0 F X3 ⟨false, false, ⟨0, 0, 0⟩, 0, 0⟩) := ⟨rfl, rfl, rfl, HT2.out, push0_inv K X3 1 0, .inl ⟨rfl, rfl, hLe.out ▸ HX2.out⟩⟩
        clear ds fr HT2 HX2
        generalize (⟨false, false, ⟨0, 0, 0⟩, 0, 0⟩ : Fr) = f0 at *
        have hlf : Hid (f0.left ≤ 5) := by unfold Hid Fr.left; split <;> (try split) <;> omega
        go_wp2
        go_loopw [11] (fun i wr => ∃ (n : Nat) (X : List Nat) (f : Fr) (T' : Int), i = .int .i64 n ∧ Hid (n + f.left ≤ 5) ∧ (0 ≤ T' ∧ T' ≤ 30 + n) ∧ Hid (FlAt K 1 V 0 F X f) ∧ FlW w wr K M G Q X T' f ∧ Hh.IsHd wr (w.heap.size + 1) (hkN : Nat) (hmN : Nat) gg (haN : Nat) (hnN : Nat) (hsN : Nat) ∧ IsI wr v1 F) (fun i _ => 20 - (intOf i).toNat)
        case atStart => exact ⟨0, X3, f0, T3, rfl, by have := hlf.out; unfold Hid; omega, by omega, HF, flw, hd, i1⟩
        case round =>
          clear flw HF hd i1 hlf
          obtain ⟨n, X, f, T, rfl, hnl, hT, HF, flw, hd, i1⟩ := hrel
          have hstp := HF.out.step hK hFn.out.1 (by omega) (by omega)
          have hlen := HF.out.2.2.2.1.len
          have c26 := flw.step hK hlen (by have := hnl.out; omega) hstp.1
          have hn40 : (n : Int) < 40 := by have := hnl.out; omega
          have kp : Hid (∀ w', Chg [Q, M, G] wr w' → IsI w' v1 F ∧ Hh.IsHd w' (w.heap.size + 1) (hkN : Nat) (hmN : Nat) gg (haN : Nat) (hnN : Nat) (hsN : Nat)) := fun w' ch => ⟨i1.chg ch (fun r h => by have := hv1b.out r h; simp; omega), hd_chg hd ch (by simp; omega)⟩
          clear hd i1 flw
          rcases hstp.2 with ⟨e1, HE⟩ | ⟨e1, HF2, hle⟩
          · rw [decide_eq_true e1] at c26
            have HE' : Hid _ := HE
            clear hstp HE HF e1
            go_upto_region 15 with (go_at_call 26; refine c26.mono ?_; rintro e w14 ⟨rfl, flw, ch⟩)
            obtain ⟨i1, hd⟩ := kp.out _ ch
            clear c26 kp ch
            obtain ⟨qb, qg⟩ := flw.fr.cells
            generalize (frX K X f).1 = X4 at *
            generalize (frX K X f).2 = f4 at *
            generalize T + 1 = T4 at *
            have ds := flw.ds
            have fr := flw.fr
            clear flw qb qg
            have hFl := hFn.out.2
            have hLI : (L : Int) < (K.N : Int) := by omega
            have hL0 : (0 : Int) ≤ (L : Int) := by omega
            obtain ⟨l0, l1, l2, l3, l4, l5⟩ := cds.out _ _ _ ds
            obtain ⟨m0, m1, m2, m3, m4, m5⟩ := hd.cells
            have hlw := limbo_word gg hr
            rw [hV.out] at hlw
            rcases HE'.out with ⟨a1, a2, a3, a4, a5⟩ | ⟨a1, a0, a2, a3, a4, a5⟩ | ⟨a1, a0, a2, a3, a4, a5⟩
            · have hk3 : hkN ≠ 3 := by rw [a1] at hlw; simpa using hlw
              have hk3b : ¬ ((hkN : Int) = 3) := by omega
              have HTx : Hid (Top K X4 1 F) := a5
              have HX : Hid (X4.getD L 0 = V) := by rw [hLe.out]; exact a4
              have zb : Hid (f4.back = false) := a2
              have zg : Hid (f4.gone = false) := a3
              have hLX : L < X4.length := by rw [a5.len]; exact hLN
              clear HE' a1 a2 a3 a4 a5 hlw hk3
              go_upto_region 17 with (first
                | (go_at_call 13; refine (cW.out _ _ _ _ _ ds HTx.out).mono ?_; rintro e w15 ⟨R2, rfl, hR2, hX4, hRl2, hb⟩; have q3 := hd_lt hd; replace ds := ds.below hb; replace fr := fr.below hb; replace hd := hd.below hb; replace i1 := i1.below hb; clear l0 l1 l2 l3 l4 l5 m0 m1 m2 m3 m4 m5; obtain ⟨l0, l1, l2, l3, l4, l5⟩ := cds.out _ _ _ ds; obtain ⟨m0, m1, m2, m3, m4, m5⟩ := hd.cells)
                | (go_at_call 14; refine (cL.out _ _ _ _ _ hR2 HTx.out hX4).mono ?_; rintro e w16 ⟨v2, rfl, i2, hv2, hb⟩; have q4 := hd_lt hd; replace ds := ds.below hb; replace fr := fr.below hb; replace hd := hd.below hb; replace i1 := i1.below hb; replace hR2 := words_below hR2 hb; clear l0 l1 l2 l3 l4 l5 m0 m1 m2 m3 m4 m5; obtain ⟨l0, l1, l2, l3, l4, l5⟩ := cds.out _ _ _ ds; obtain ⟨m0, m1, m2, m3, m4, m5⟩ := hd.cells))
              go_upto_region 18 with fail
              replace ds := ds.drew
              replace fr := fr.below (Below.refl _ _).drew
              replace hd := hd.below (Below.refl _ _).drew
              replace i1 := i1.below (Below.refl _ _).drew
              replace i2 := i2.below (Below.refl _ _).drew
              replace hR2 := words_below hR2 (Below.refl _ _).drew
              clear l0 l1 l2 l3 l4 l5 m0 m1 m2 m3 m4 m5
              have hS0 := fs_held hd fr zb.out zg.out hR2 hLX HX.out
              refine wp_region_held_drew (S := fun wr => (wr.cell? ⟨w.heap.size + 1, 0, none⟩ = some (.int .i64 (hkN : Nat)) ∧ wr.cell? ⟨w.heap.size + 1, 1, none⟩ = some (.int .i64 (hmN : Nat)) ∧ wr.cell? ⟨w.heap.size + 1, 2, none⟩ = some (.bool gg) ∧ wr.cell? ⟨w.heap.size + 1, 3, none⟩ = some (.int .i64 (haN : Nat)) ∧ wr.cell? ⟨w.heap.size + 1, 4, none⟩ = some (.int .i64 (hnN : Nat)) ∧ wr.cell? ⟨w.heap.size + 1, 5, none⟩ = some (.int .i64 (hsN : Nat))) ∧ wr.cell? ⟨Q, 0, none⟩ = some (.bool false) ∧ wr.cell? ⟨Q, 1, none⟩ = some (.bool false) ∧ wr.cell? ⟨R2, L, none⟩ = some (.int .u64 (V : Nat))) (by kernel_rfl) hS0 (fun hS1 => ?_)
              clear hS0
              refine wpAnyH_take (i := 0) (oi := { dst := some 90, op := Go.Op.move (Go.Operand.tmp 7), type := 39, pos := "law.go:239", after := #[], guard := none }) (v := .pointer (some ⟨Q, 0, none⟩)) rfl (by kernel_rfl) (by kernel_rfl) (by kernel_rfl) (fun _ _ _ h => h) (Or.inl ⟨by rfl, fun w hSw => by (try dsimp only at hSw); go_simp⟩) hS1 ?_
              simp only [Act.put, List.setIfInBounds_toArray, List.set_cons_zero, List.set_cons_succ]
              refine wpAnyH_take (i := 1) (oi := { dst := some 91, op := Go.Op.nilCheck (Go.Operand.tmp 90), type := 0, pos := "law.go:239", after := #[{ on := 0, ground := Go.Ground.data }], guard := none }) (v := .pointer (some ⟨Q, 0, none⟩)) rfl (by kernel_rfl) (by kernel_rfl) (by kernel_rfl) (fun _ _ _ h => h) (Or.inl ⟨by rfl, fun w hSw => by (try dsimp only at hSw); go_simp⟩) hS1 ?_
              simp only [Act.put, List.setIfInBounds_toArray, List.set_cons_zero, List.set_cons_succ]
              refine wpAnyH_take (i := 2) (oi := { dst := some 92, op := Go.Op.fieldAddr 72 (Go.Operand.tmp 91) 0, type := 0, pos := "law.go:239", after := #[{ on := 1, ground := Go.Ground.data }], guard := none }) (v := .pointer (some ⟨Q, 0, none⟩)) rfl (by kernel_rfl) (by kernel_rfl) (by kernel_rfl) (fun _ _ _ h => h) (Or.inl ⟨by rfl, fun w hSw => by (try dsimp only at hSw); go_simp⟩) hS1 ?_
              simp only [Act.put, List.setIfInBounds_toArray, List.set_cons_zero, List.set_cons_succ]
              refine wpAnyH_take (i := 3) (oi := { dst := some 93, op := Go.Op.load 4 (Go.Operand.tmp 92), type := 4, pos := "law.go:239", after := #[{ on := 2, ground := Go.Ground.data }], guard := none }) (v := .bool false) rfl (by kernel_rfl) (by kernel_rfl) (by kernel_rfl) (fun _ _ _ h => h) (Or.inl ⟨by rfl, fun w hSw => by (try dsimp only at hSw); go_simp⟩) hS1 ?_
              simp only [Act.put, List.setIfInBounds_toArray, List.set_cons_zero, List.set_cons_succ]
              refine wpAnyH_take (i := 4) (oi := { dst := some 94, op := Go.Op.unOp Go.UnOp.not 4 (Go.Operand.tmp 93), type := 4, pos := "law.go:239", after := #[{ on := 3, ground := Go.Ground.data }], guard := none }) (v := .bool true) rfl (by kernel_rfl) (by kernel_rfl) (by kernel_rfl) (fun _ _ _ h => h) (Or.inl ⟨by rfl, fun w hSw => by (try dsimp only at hSw); go_simp⟩) hS1 ?_
              simp only [Act.put, List.setIfInBounds_toArray, List.set_cons_zero, List.set_cons_succ]
              refine wpAnyH_take (i := 5) (oi := { dst := some 95, op := Go.Op.move (Go.Operand.tmp 94), type := 4, pos := "law.go:239", after := #[{ on := 4, ground := Go.Ground.data }], guard := none }) (v := .bool true) rfl (by kernel_rfl) (by kernel_rfl) (by kernel_rfl) (fun _ _ _ h => h) (Or.inl ⟨by rfl, fun w hSw => by (try dsimp only at hSw); go_simp⟩) hS1 ?_
              simp only [Act.put, List.setIfInBounds_toArray, List.set_cons_zero, List.set_cons_succ]
              refine wpAnyH_take (i := 6) (oi := { dst := some 96, op := Go.Op.move (Go.Operand.tmp 7), type := 39, pos := "law.go:239", after := #[{ on := 5, ground := Go.Ground.guard }], guard := some (5, true) }) (v := .pointer (some ⟨Q, 0, none⟩)) rfl (by kernel_rfl) (by kernel_rfl) (by kernel_rfl) (fun _ _ _ h => h) (Or.inl ⟨by rfl, fun w hSw => by (try dsimp only at hSw); go_simp⟩) hS1 ?_
              simp only [Act.put, List.setIfInBounds_toArray, List.set_cons_zero, List.set_cons_succ]
              refine wpAnyH_take (i := 7) (oi := { dst := some 97, op := Go.Op.nilCheck (Go.Operand.tmp 96), type := 0, pos := "law.go:239", after := #[{ on := 6, ground := Go.Ground.data }, { on := 5, ground := Go.Ground.guard }], guard := some (5, true) }) (v := .pointer (some ⟨Q, 0, none⟩)) rfl (by kernel_rfl) (by kernel_rfl) (by kernel_rfl) (fun _ _ _ h => h) (Or.inl ⟨by rfl, fun w hSw => by (try dsimp only at hSw); go_simp⟩) hS1 ?_
              simp only [Act.put, List.setIfInBounds_toArray, List.set_cons_zero, List.set_cons_succ]
              refine wpAnyH_take (i := 8) (oi := { dst := some 98, op := Go.Op.fieldAddr 72 (Go.Operand.tmp 97) 1, type := 0, pos := "law.go:239", after := #[{ on := 7, ground := Go.Ground.data }, { on := 5, ground := Go.Ground.guard }], guard := some (5, true) }) (v := .pointer (some ⟨Q, 1, none⟩)) rfl (by kernel_rfl) (by kernel_rfl) (by kernel_rfl) (fun _ _ _ h => h) (Or.inl ⟨by rfl, fun w hSw => by (try dsimp only at hSw); go_simp⟩) hS1 ?_
              simp only [Act.put, List.setIfInBounds_toArray, List.set_cons_zero, List.set_cons_succ]
              refine wpAnyH_take (i := 9) (oi := { dst := some 99, op := Go.Op.load 4 (Go.Operand.tmp 98), type := 4, pos := "law.go:239", after := #[{ on := 8, ground := Go.Ground.data }, { on := 5, ground := Go.Ground.guard }], guard := some (5, true) }) (v := .bool false) rfl (by kernel_rfl) (by kernel_rfl) (by kernel_rfl) (fun _ _ _ h => h) (Or.inl ⟨by rfl, fun w hSw => by (try dsimp only at hSw); go_simp⟩) hS1 ?_
              simp only [Act.put, List.setIfInBounds_toArray, List.set_cons_zero, List.set_cons_succ]
              refine wpAnyH_take (i := 10) (oi := { dst := some 100, op := Go.Op.unOp Go.UnOp.not 4 (Go.Operand.tmp 99), type := 4, pos := "law.go:239", after := #[{ on := 9, ground := Go.Ground.data }, { on := 5, ground := Go.Ground.guard }], guard := some (5, true) }) (v := .bool true) rfl (by kernel_rfl) (by kernel_rfl) (by kernel_rfl) (fun _ _ _ h => h) (Or.inl ⟨by rfl, fun w hSw => by (try dsimp only at hSw); go_simp⟩) hS1 ?_
              simp only [Act.put, List.setIfInBounds_toArray, List.set_cons_zero, List.set_cons_succ]
              refine wpAnyH_take (i := 11) (oi := { dst := some 101, op := Go.Op.pick (Go.Operand.tmp 95) (Go.Operand.tmp 100) (Go.Operand.const (Go.Value.bool false)), type := 4, pos := "law.go:239", after := #[{ on := 5, ground := Go.Ground.data }, { on := 10, ground := Go.Ground.data }], guard := none }) (v := .bool true) rfl (by kernel_rfl) (by kernel_rfl) (by kernel_rfl) (fun _ _ _ h => h) (Or.inl ⟨by rfl, fun w hSw => by (try dsimp only at hSw); go_simp⟩) hS1 ?_
              simp only [Act.put, List.setIfInBounds_toArray, List.set_cons_zero, List.set_cons_succ]
              refine wpAnyH_take (i := 12) (oi := { dst := some 102, op := Go.Op.move (Go.Operand.tmp 101), type := 4, pos := "law.go:239", after := #[{ on := 11, ground := Go.Ground.data }, { on := 5, ground := Go.Ground.chain }], guard := none }) (v := .bool true) rfl (by kernel_rfl) (by kernel_rfl) (by kernel_rfl) (fun _ _ _ h => h) (Or.inl ⟨by rfl, fun w hSw => by (try dsimp only at hSw); go_simp⟩) hS1 ?_
              simp only [Act.put, List.setIfInBounds_toArray, List.set_cons_zero, List.set_cons_succ]
              refine wpAnyH_take (i := 13) (oi := { dst := some 103, op := Go.Op.move (Go.Operand.tmp 12), type := 44, pos := "law.go:239", after := #[{ on := 12, ground := Go.Ground.guard }], guard := some (12, true) }) (v := .slice (some ⟨R2, 0, none⟩) K.N K.N) rfl (by kernel_rfl) (by kernel_rfl) (by kernel_rfl) (fun _ _ _ h => h) (Or.inl ⟨by rfl, fun w hSw => by (try dsimp only at hSw); go_simp⟩) hS1 ?_
              simp only [Act.put, List.setIfInBounds_toArray, List.set_cons_zero, List.set_cons_succ]
              refine wpAnyH_take (i := 14) (oi := { dst := some 104, op := Go.Op.move (Go.Operand.tmp 9), type := 3, pos := "law.go:239", after := #[{ on := 12, ground := Go.Ground.guard }], guard := some (12, true) }) (v := .int .i64 (L : Nat)) rfl (by kernel_rfl) (by kernel_rfl) (by kernel_rfl) (fun _ _ _ h => h) (Or.inl ⟨by rfl, fun w hSw => by (try dsimp only at hSw); go_simp⟩) hS1 ?_
              simp only [Act.put, List.setIfInBounds_toArray, List.set_cons_zero, List.set_cons_succ]
              refine wpAnyH_take (i := 15) (oi := { dst := some 105, op := Go.Op.indexAddr 44 (Go.Operand.tmp 103) (Go.Operand.tmp 104), type := 0, pos := "law.go:239", after := #[{ on := 13, ground := Go.Ground.data }, { on := 14, ground := Go.Ground.data }, { on := 12, ground := Go.Ground.guard }], guard := some (12, true) }) (v := .pointer (some ⟨R2, L, none⟩)) rfl (by kernel_rfl) (by kernel_rfl) (by kernel_rfl) (fun _ _ _ h => h) (Or.inl ⟨by rfl, fun w hSw => by (try dsimp only at hSw); go_simp⟩) hS1 ?_
              simp only [Act.put, List.setIfInBounds_toArray, List.set_cons_zero, List.set_cons_succ]
              refine wpAnyH_take (i := 16) (oi := { dst := some 106, op := Go.Op.load 35 (Go.Operand.tmp 105), type := 35, pos := "law.go:239", after := #[{ on := 15, ground := Go.Ground.data }, { on := 12, ground := Go.Ground.guard }], guard := some (12, true) }) (v := .int .u64 (V : Nat)) rfl (by kernel_rfl) (by kernel_rfl) (by kernel_rfl) (fun _ _ _ h => h) (Or.inl ⟨by rfl, fun w hSw => by (try dsimp only at hSw); go_simp⟩) hS1 ?_
              simp only [Act.put, List.setIfInBounds_toArray, List.set_cons_zero, List.set_cons_succ]
              refine wpAnyH_take (i := 17) (oi := { dst := some 107, op := Go.Op.load 48 (Go.Operand.tmp 3), type := 48, pos := "law.go:239", after := #[{ on := 12, ground := Go.Ground.guard }], guard := some (12, true) }) (v := .agg #[.int .i64 (hkN : Nat), .int .i64 (hmN : Nat), .bool gg, .int .i64 (haN : Nat), .int .i64 (hnN : Nat), .int .i64 (hsN : Nat)]) rfl (by kernel_rfl) (by kernel_rfl) (by kernel_rfl) (fun _ _ _ h => h) (Or.inl ⟨by rfl, fun w hSw => by (try dsimp only at hSw); go_simp⟩) hS1 ?_
              simp only [Act.put, List.setIfInBounds_toArray, List.set_cons_zero, List.set_cons_succ]
              refine wpAnyH_ready (rs := [18]) (by kernel_rfl) (by simp) (AllReadyH.cons (o := { dst := some 108, op := Go.Op.call { callee := Go.Callee.value (Go.Operand.func 25), args := #[Go.Operand.tmp 107], argTypes := #[48] }, type := 35, pos := "law.go:239", after := #[{ on := 17, ground := Go.Ground.data }, { on := 12, ground := Go.Ground.chain }, { on := 12, ground := Go.Ground.guard }], guard := some (12, true) }) rfl (fun K1 hK => ?_) AllReadyH.nil)
              go_simp
              go_at_call 25
              with_reducible refine (c25 _).mono ?_
              rintro e w17 ⟨rfl, hb⟩
              (try simp only [])
              replace ds := ds.below hb; replace fr := fr.below hb; replace hd := hd.below hb; replace i1 := i1.below hb; replace i2 := i2.below hb; replace hR2 := words_below hR2 hb
              clear hb
              refine hK.out _ _ (fs_held hd fr zb.out zg.out hR2 hLX HX.out) (fun hS1 => ?_)
              (try simp only [Act.put, List.setIfInBounds_toArray, List.set_cons_zero, List.set_cons_succ])
              clear hK
              refine wpAnyH_take (i := 19) (oi := { dst := some 109, op := Go.Op.binOp Go.BinOp.eql 35 (Go.Operand.tmp 106) (Go.Operand.tmp 108) 35, type := 4, pos := "law.go:239", after := #[{ on := 16, ground := Go.Ground.data }, { on := 18, ground := Go.Ground.data }, { on := 12, ground := Go.Ground.guard }], guard := some (12, true) }) (v := .bool true) rfl (by kernel_rfl) (by kernel_rfl) (by kernel_rfl) (fun _ _ _ h => h) (Or.inl ⟨by rfl, fun w hSw => by (try dsimp only at hSw); go_simp⟩) hS1 ?_
              simp only [Act.put, List.setIfInBounds_toArray, List.set_cons_zero, List.set_cons_succ]
              refine wpAnyH_take (i := 20) (oi := { dst := some 110, op := Go.Op.pick (Go.Operand.tmp 102) (Go.Operand.tmp 109) (Go.Operand.const (Go.Value.bool false)), type := 4, pos := "law.go:239", after := #[{ on := 12, ground := Go.Ground.data }, { on := 19, ground := Go.Ground.data }], guard := none }) (v := .bool true) rfl (by kernel_rfl) (by kernel_rfl) (by kernel_rfl) (fun _ _ _ h => h) (Or.inl ⟨by rfl, fun w hSw => by (try dsimp only at hSw); go_simp⟩) hS1 ?_
              simp only [Act.put, List.setIfInBounds_toArray, List.set_cons_zero, List.set_cons_succ]
              refine wpAnyH_take (i := 21) (oi := { dst := some 111, op := Go.Op.move (Go.Operand.tmp 110), type := 4, pos := "law.go:239", after := #[{ on := 20, ground := Go.Ground.data }, { on := 18, ground := Go.Ground.chain }], guard := none }) (v := .bool true) rfl (by kernel_rfl) (by kernel_rfl) (by kernel_rfl) (fun _ _ _ h => h) (Or.inl ⟨by rfl, fun w hSw => by (try dsimp only at hSw); go_simp⟩) hS1 ?_
              simp only [Act.put, List.setIfInBounds_toArray, List.set_cons_zero, List.set_cons_succ]
              refine wpAnyH_take (i := 22) (oi := { dst := some 112, op := Go.Op.move (Go.Operand.tmp 10), type := 25, pos := "law.go:239", after := #[{ on := 21, ground := Go.Ground.guard }], guard := some (21, true) }) (v := v1) rfl (by kernel_rfl) (by kernel_rfl) (by kernel_rfl) (fun _ _ _ h => h) (Or.inl ⟨by rfl, fun w hSw => by (try dsimp only at hSw); go_simp⟩) hS1 ?_
              simp only [Act.put, List.setIfInBounds_toArray, List.set_cons_zero, List.set_cons_succ]
              refine wpAnyH_take (i := 23) (oi := { dst := some 113, op := Go.Op.move (Go.Operand.tmp 13), type := 25, pos := "law.go:239", after := #[{ on := 21, ground := Go.Ground.guard }], guard := some (21, true) }) (v := v2) rfl (by kernel_rfl) (by kernel_rfl) (by kernel_rfl) (fun _ _ _ h => h) (Or.inl ⟨by rfl, fun w hSw => by (try dsimp only at hSw); go_simp⟩) hS1 ?_
              simp only [Act.put, List.setIfInBounds_toArray, List.set_cons_zero, List.set_cons_succ]
              refine wpAnyH_ready (rs := [24]) (by kernel_rfl) (by simp) (AllReadyH.cons (o := { dst := some 114, op := Go.Op.call { callee := Go.Callee.value (Go.Operand.func 27), args := #[Go.Operand.tmp 112, Go.Operand.tmp 113], argTypes := #[25, 25] }, type := 4, pos := "law.go:239", after := #[{ on := 22, ground := Go.Ground.data }, { on := 23, ground := Go.Ground.data }, { on := 21, ground := Go.Ground.chain }, { on := 21, ground := Go.Ground.guard }], guard := some (21, true) }) rfl (fun K1 hK => ?_) AllReadyH.nil)
              go_simp
              go_at_call 27
              with_reducible refine (same_yes i1 i2 hFl).mono ?_
              rintro e w18 ⟨rfl, hb⟩
              (try simp only [])
              replace ds := ds.below hb; replace fr := fr.below hb; replace hd := hd.below hb; replace i1 := i1.below hb; replace i2 := i2.below hb; replace hR2 := words_below hR2 hb
              clear hb
              refine hK.out _ _ (fs_held hd fr zb.out zg.out hR2 hLX HX.out) (fun hS1 => ?_)
              (try simp only [Act.put, List.setIfInBounds_toArray, List.set_cons_zero, List.set_cons_succ])
              clear hK
              refine wpAnyH_take (i := 25) (oi := { dst := some 115, op := Go.Op.pick (Go.Operand.tmp 111) (Go.Operand.tmp 114) (Go.Operand.const (Go.Value.bool false)), type := 4, pos := "law.go:239", after := #[{ on := 21, ground := Go.Ground.data }, { on := 24, ground := Go.Ground.data }], guard := none }) (v := .bool true) rfl (by kernel_rfl) (by kernel_rfl) (by kernel_rfl) (fun _ _ _ h => h) (Or.inl ⟨by rfl, fun w hSw => by (try dsimp only at hSw); go_simp⟩) hS1 ?_
              simp only [Act.put, List.setIfInBounds_toArray, List.set_cons_zero, List.set_cons_succ]
              refine wpAnyH_take (i := 26) (oi := { dst := some 4, op := Go.Op.assign (Go.Operand.tmp 115), type := 4, pos := "law.go:239", after := #[{ on := 25, ground := Go.Ground.data }, { on := 24, ground := Go.Ground.chain }, { on := 0, ground := Go.Ground.phase }, { on := 1, ground := Go.Ground.phase }, { on := 2, ground := Go.Ground.phase }, { on := 3, ground := Go.Ground.phase }, { on := 4, ground := Go.Ground.phase }, { on := 5, ground := Go.Ground.phase }, { on := 6, ground := Go.Ground.phase }, { on := 7, ground := Go.Ground.phase }, { on := 8, ground := Go.Ground.phase }, { on := 9, ground := Go.Ground.phase }, { on := 10, ground := Go.Ground.phase }, { on := 11, ground := Go.Ground.phase }, { on := 12, ground := Go.Ground.phase }, { on := 13, ground := Go.Ground.phase }, { on := 14, ground := Go.Ground.phase }, { on := 15, ground := Go.Ground.phase }, { on := 16, ground := Go.Ground.phase }, { on := 17, ground := Go.Ground.phase }, { on := 18, ground := Go.Ground.phase }, { on := 19, ground := Go.Ground.phase }, { on := 20, ground := Go.Ground.phase }, { on := 21, ground := Go.Ground.phase }, { on := 22, ground := Go.Ground.phase }, { on := 23, ground := Go.Ground.phase }, { on := 24, ground := Go.Ground.phase }, { on := 25, ground := Go.Ground.phase }], guard := none }) (v := .bool true) rfl (by kernel_rfl) (by kernel_rfl) (by kernel_rfl) (fun _ _ _ h => h) (Or.inl ⟨by rfl, fun w hSw => by (try dsimp only at hSw); go_simp⟩) hS1 ?_
              simp only [Act.put, List.setIfInBounds_toArray, List.set_cons_zero, List.set_cons_succ]
              refine wpAnyH_done (by kernel_rfl) ?_ _
              clear hS1
              go_wp2
              all_goals (go_ret; exact ⟨rfl, ds.bel⟩)
            · have hk3 : hkN = 3 := by rw [a1] at hlw; simpa using hlw
              subst hk3
              have hg40 : K.g ≤ 40 := hg.2
              have hdd : ¬ (hnN : Int) + 1 < K.g := fun hx => by
                obtain ⟨e1, e2⟩ := fd_free gg hr hx hg40
                rw [hV.out] at e1
                rw [e1, e2] at a0
                omega
              obtain ⟨e1, e2⟩ := fd_dead gg hr hdd
              rw [hV.out] at e1
              rw [e1] at a4
              have hrd : Hr 4 hmN haN hnN hsN := ⟨by omega, hr.m, hr.a, hr.n, hr.s⟩
              have c25d : ∀ w, Calls Tryd.prog 25 #[.agg #[.int .i64 4, .int .i64 (hmN : Nat), .bool gg, .int .i64 (haN : Nat), .int .i64 (hnN : Nat), .int .i64 (hsN : Nat)]] w fun e w' => e = .returned (.int .u64 ((wordOf 4 hmN gg.toNat haN hnN hsN : Nat) : Int)) ∧ Below w.heap.size w w' := fun w => Hh.rpack_any 4 hmN gg haN hnN hsN hrd.k hrd.m hrd.a hrd.n hrd.s w
              have hnlt := hr.n
              have qw : IntKind.i64.wrap ((hnN : Int) + 1) = (hnN : Int) + 1 := by rw [IntKind.wrap_i64]; omega
              have HTx : Hid (Top K X4 1 F) := a5
              have HX : Hid (X4.getD L 0 = wordOf 4 hmN gg.toNat haN hnN hsN) := by rw [hLe.out]; exact a4
              have zb : Hid (f4.back = false) := a2
              have zg : Hid (f4.gone = true) := a3
              have hLX : L < X4.length := by rw [a5.len]; exact hLN
              have hdd2 : K.g ≤ (hnN : Int) + 1 := by omega
              have hk3b : ((3 : Nat) : Int) = 3 := rfl
              clear HE' a0 a1 a2 a3 a4 a5 hlw e1 e2 hdd c25 hrd hV
              generalize wordOf 4 hmN gg.toNat haN hnN hsN = V4 at *
              go_upto_region 17 with (first
                | (go_at_call 13; refine (cW.out _ _ _ _ _ ds HTx.out).mono ?_; rintro e w15 ⟨R2, rfl, hR2, hX4, hRl2, hb⟩; have q3 := hd_lt hd; replace ds := ds.below hb; replace fr := fr.below hb; replace hd := hd.below hb; replace i1 := i1.below hb; clear l0 l1 l2 l3 l4 l5 m0 m1 m2 m3 m4 m5; obtain ⟨l0, l1, l2, l3, l4, l5⟩ := cds.out _ _ _ ds; obtain ⟨m0, m1, m2, m3, m4, m5⟩ := hd.cells)
                | (go_at_call 14; refine (cL.out _ _ _ _ _ hR2 HTx.out hX4).mono ?_; rintro e w16 ⟨v2, rfl, i2, hv2, hb⟩; have q4 := hd_lt hd; replace ds := ds.below hb; replace fr := fr.below hb; replace hd := hd.below hb; replace i1 := i1.below hb; replace hR2 := words_below hR2 hb; clear l0 l1 l2 l3 l4 l5 m0 m1 m2 m3 m4 m5; obtain ⟨l0, l1, l2, l3, l4, l5⟩ := cds.out _ _ _ ds; obtain ⟨m0, m1, m2, m3, m4, m5⟩ := hd.cells))
              go_upto_region 20 with fail
              have f0 := hd.free 0
              have hd4 : Hh.IsHd (w16.setCell ⟨w.heap.size + 1, 0, none⟩ (.int .i64 4)) (w.heap.size + 1) 4 (hmN : Nat) gg (haN : Nat) (hnN : Nat) (hsN : Nat) := Mm.heap_setCell_at hd _
              have ch4 : Chg [w.heap.size + 1] w16 (w16.setCell ⟨w.heap.size + 1, 0, none⟩ (.int .i64 4)) := (Chg.refl _ w16).setCell (by simp) _
              have hMl := ds.hM
              have hfl := fr.lt
              have ds4 : Ds w (w16.setCell ⟨w.heap.size + 1, 0, none⟩ (.int .i64 4)) K M G X4 T4 := ⟨ds.mem.chg ch4 (by simp; omega) (by simp; omega), ds.cfg.chg ch4 (by simp), ch4.below ds.bel (by simp) (Nat.le_refl _), WT.chg ds.wt ch4 (by simp), ds.hM, ds.hG⟩
              have fr4 := fr.chg ch4 (by simp; omega)
              have i14 := i1.chg ch4 (fun r h => by have := hv1c.out r h; simp; omega)
              have i24 := i2.chg ch4 (fun r h => by have := hv2 r h; simp; omega)
              have hR24 := words_chg hR2 ch4 (by simp; omega)
              go_upto_region 21 with fail
              clear ds fr hd i1 i2 hR2 f0 ch4
              have ds := ds4
              have fr := fr4
              have hd := hd4
              have i1 := i14
              have i2 := i24
              have hR2 := hR24
              clear ds4 fr4 hd4 i14 i24 hR24
              generalize w16.setCell ⟨w.heap.size + 1, 0, none⟩ (.int .i64 4) = w20 at *
              go_upto_region 21 with fail
              replace ds := ds.drew
              replace fr := fr.below (Below.refl _ _).drew
              replace hd := hd.below (Below.refl _ _).drew
              replace i1 := i1.below (Below.refl _ _).drew
              replace i2 := i2.below (Below.refl _ _).drew
              replace hR2 := words_below hR2 (Below.refl _ _).drew
              clear l0 l1 l2 l3 l4 l5 m0 m1 m2 m3 m4 m5
              have hS0 := fs_held hd fr zb.out zg.out hR2 hLX HX.out
              refine wp_region_held_drew (S := fun wr => (wr.cell? ⟨w.heap.size + 1, 0, none⟩ = some (.int .i64 4) ∧ wr.cell? ⟨w.heap.size + 1, 1, none⟩ = some (.int .i64 (hmN : Nat)) ∧ wr.cell? ⟨w.heap.size + 1, 2, none⟩ = some (.bool gg) ∧ wr.cell? ⟨w.heap.size + 1, 3, none⟩ = some (.int .i64 (haN : Nat)) ∧ wr.cell? ⟨w.heap.size + 1, 4, none⟩ = some (.int .i64 (hnN : Nat)) ∧ wr.cell? ⟨w.heap.size + 1, 5, none⟩ = some (.int .i64 (hsN : Nat))) ∧ wr.cell? ⟨Q, 0, none⟩ = some (.bool false) ∧ wr.cell? ⟨Q, 1, none⟩ = some (.bool true) ∧ wr.cell? ⟨R2, L, none⟩ = some (.int .u64 (V4 : Nat))) (by kernel_rfl) hS0 (fun hS1 => ?_)
              clear hS0
              refine wpAnyH_take (i := 0) (oi := { dst := some 123, op := Go.Op.move (Go.Operand.tmp 7), type := 39, pos := "law.go:243", after := #[], guard := none }) (v := .pointer (some ⟨Q, 0, none⟩)) rfl (by kernel_rfl) (by kernel_rfl) (by kernel_rfl) (fun _ _ _ h => h) (Or.inl ⟨by rfl, fun w hSw => by (try dsimp only at hSw); go_simp⟩) hS1 ?_
              simp only [Act.put, List.setIfInBounds_toArray, List.set_cons_zero, List.set_cons_succ]
              refine wpAnyH_take (i := 1) (oi := { dst := some 124, op := Go.Op.nilCheck (Go.Operand.tmp 123), type := 0, pos := "law.go:243", after := #[{ on := 0, ground := Go.Ground.data }], guard := none }) (v := .pointer (some ⟨Q, 0, none⟩)) rfl (by kernel_rfl) (by kernel_rfl) (by kernel_rfl) (fun _ _ _ h => h) (Or.inl ⟨by rfl, fun w hSw => by (try dsimp only at hSw); go_simp⟩) hS1 ?_
              simp only [Act.put, List.setIfInBounds_toArray, List.set_cons_zero, List.set_cons_succ]
              refine wpAnyH_take (i := 2) (oi := { dst := some 125, op := Go.Op.fieldAddr 72 (Go.Operand.tmp 124) 1, type := 0, pos := "law.go:243", after := #[{ on := 1, ground := Go.Ground.data }], guard := none }) (v := .pointer (some ⟨Q, 1, none⟩)) rfl (by kernel_rfl) (by kernel_rfl) (by kernel_rfl) (fun _ _ _ h => h) (Or.inl ⟨by rfl, fun w hSw => by (try dsimp only at hSw); go_simp⟩) hS1 ?_
              simp only [Act.put, List.setIfInBounds_toArray, List.set_cons_zero, List.set_cons_succ]
              refine wpAnyH_take (i := 3) (oi := { dst := some 126, op := Go.Op.load 4 (Go.Operand.tmp 125), type := 4, pos := "law.go:243", after := #[{ on := 2, ground := Go.Ground.data }], guard := none }) (v := .bool true) rfl (by kernel_rfl) (by kernel_rfl) (by kernel_rfl) (fun _ _ _ h => h) (Or.inl ⟨by rfl, fun w hSw => by (try dsimp only at hSw); go_simp⟩) hS1 ?_
              simp only [Act.put, List.setIfInBounds_toArray, List.set_cons_zero, List.set_cons_succ]
              refine wpAnyH_take (i := 4) (oi := { dst := some 127, op := Go.Op.move (Go.Operand.tmp 126), type := 4, pos := "law.go:243", after := #[{ on := 3, ground := Go.Ground.data }], guard := none }) (v := .bool true) rfl (by kernel_rfl) (by kernel_rfl) (by kernel_rfl) (fun _ _ _ h => h) (Or.inl ⟨by rfl, fun w hSw => by (try dsimp only at hSw); go_simp⟩) hS1 ?_
              simp only [Act.put, List.setIfInBounds_toArray, List.set_cons_zero, List.set_cons_succ]
              refine wpAnyH_take (i := 5) (oi := { dst := some 128, op := Go.Op.move (Go.Operand.tmp 7), type := 39, pos := "law.go:243", after := #[{ on := 4, ground := Go.Ground.guard }], guard := some (4, true) }) (v := .pointer (some ⟨Q, 0, none⟩)) rfl (by kernel_rfl) (by kernel_rfl) (by kernel_rfl) (fun _ _ _ h => h) (Or.inl ⟨by rfl, fun w hSw => by (try dsimp only at hSw); go_simp⟩) hS1 ?_
              simp only [Act.put, List.setIfInBounds_toArray, List.set_cons_zero, List.set_cons_succ]
              refine wpAnyH_take (i := 6) (oi := { dst := some 129, op := Go.Op.nilCheck (Go.Operand.tmp 128), type := 0, pos := "law.go:243", after := #[{ on := 5, ground := Go.Ground.data }, { on := 4, ground := Go.Ground.guard }], guard := some (4, true) }) (v := .pointer (some ⟨Q, 0, none⟩)) rfl (by kernel_rfl) (by kernel_rfl) (by kernel_rfl) (fun _ _ _ h => h) (Or.inl ⟨by rfl, fun w hSw => by (try dsimp only at hSw); go_simp⟩) hS1 ?_
              simp only [Act.put, List.setIfInBounds_toArray, List.set_cons_zero, List.set_cons_succ]
              refine wpAnyH_take (i := 7) (oi := { dst := some 130, op := Go.Op.fieldAddr 72 (Go.Operand.tmp 129) 0, type := 0, pos := "law.go:243", after := #[{ on := 6, ground := Go.Ground.data }, { on := 4, ground := Go.Ground.guard }], guard := some (4, true) }) (v := .pointer (some ⟨Q, 0, none⟩)) rfl (by kernel_rfl) (by kernel_rfl) (by kernel_rfl) (fun _ _ _ h => h) (Or.inl ⟨by rfl, fun w hSw => by (try dsimp only at hSw); go_simp⟩) hS1 ?_
              simp only [Act.put, List.setIfInBounds_toArray, List.set_cons_zero, List.set_cons_succ]
              refine wpAnyH_take (i := 8) (oi := { dst := some 131, op := Go.Op.load 4 (Go.Operand.tmp 130), type := 4, pos := "law.go:243", after := #[{ on := 7, ground := Go.Ground.data }, { on := 4, ground := Go.Ground.guard }], guard := some (4, true) }) (v := .bool false) rfl (by kernel_rfl) (by kernel_rfl) (by kernel_rfl) (fun _ _ _ h => h) (Or.inl ⟨by rfl, fun w hSw => by (try dsimp only at hSw); go_simp⟩) hS1 ?_
              simp only [Act.put, List.setIfInBounds_toArray, List.set_cons_zero, List.set_cons_succ]
              refine wpAnyH_take (i := 9) (oi := { dst := some 132, op := Go.Op.unOp Go.UnOp.not 4 (Go.Operand.tmp 131), type := 4, pos := "law.go:243", after := #[{ on := 8, ground := Go.Ground.data }, { on := 4, ground := Go.Ground.guard }], guard := some (4, true) }) (v := .bool true) rfl (by kernel_rfl) (by kernel_rfl) (by kernel_rfl) (fun _ _ _ h => h) (Or.inl ⟨by rfl, fun w hSw => by (try dsimp only at hSw); go_simp⟩) hS1 ?_
              simp only [Act.put, List.setIfInBounds_toArray, List.set_cons_zero, List.set_cons_succ]
              refine wpAnyH_take (i := 10) (oi := { dst := some 133, op := Go.Op.pick (Go.Operand.tmp 127) (Go.Operand.tmp 132) (Go.Operand.const (Go.Value.bool false)), type := 4, pos := "law.go:243", after := #[{ on := 4, ground := Go.Ground.data }, { on := 9, ground := Go.Ground.data }], guard := none }) (v := .bool true) rfl (by kernel_rfl) (by kernel_rfl) (by kernel_rfl) (fun _ _ _ h => h) (Or.inl ⟨by rfl, fun w hSw => by (try dsimp only at hSw); go_simp⟩) hS1 ?_
              simp only [Act.put, List.setIfInBounds_toArray, List.set_cons_zero, List.set_cons_succ]
              refine wpAnyH_take (i := 11) (oi := { dst := some 134, op := Go.Op.move (Go.Operand.tmp 133), type := 4, pos := "law.go:243", after := #[{ on := 10, ground := Go.Ground.data }, { on := 4, ground := Go.Ground.chain }], guard := none }) (v := .bool true) rfl (by kernel_rfl) (by kernel_rfl) (by kernel_rfl) (fun _ _ _ h => h) (Or.inl ⟨by rfl, fun w hSw => by (try dsimp only at hSw); go_simp⟩) hS1 ?_
              simp only [Act.put, List.setIfInBounds_toArray, List.set_cons_zero, List.set_cons_succ]
              refine wpAnyH_take (i := 12) (oi := { dst := some 135, op := Go.Op.move (Go.Operand.tmp 12), type := 44, pos := "law.go:243", after := #[{ on := 11, ground := Go.Ground.guard }], guard := some (11, true) }) (v := .slice (some ⟨R2, 0, none⟩) K.N K.N) rfl (by kernel_rfl) (by kernel_rfl) (by kernel_rfl) (fun _ _ _ h => h) (Or.inl ⟨by rfl, fun w hSw => by (try dsimp only at hSw); go_simp⟩) hS1 ?_
              simp only [Act.put, List.setIfInBounds_toArray, List.set_cons_zero, List.set_cons_succ]
              refine wpAnyH_take (i := 13) (oi := { dst := some 136, op := Go.Op.move (Go.Operand.tmp 9), type := 3, pos := "law.go:243", after := #[{ on := 11, ground := Go.Ground.guard }], guard := some (11, true) }) (v := .int .i64 (L : Nat)) rfl (by kernel_rfl) (by kernel_rfl) (by kernel_rfl) (fun _ _ _ h => h) (Or.inl ⟨by rfl, fun w hSw => by (try dsimp only at hSw); go_simp⟩) hS1 ?_
              simp only [Act.put, List.setIfInBounds_toArray, List.set_cons_zero, List.set_cons_succ]
              refine wpAnyH_take (i := 14) (oi := { dst := some 137, op := Go.Op.indexAddr 44 (Go.Operand.tmp 135) (Go.Operand.tmp 136), type := 0, pos := "law.go:243", after := #[{ on := 12, ground := Go.Ground.data }, { on := 13, ground := Go.Ground.data }, { on := 11, ground := Go.Ground.guard }], guard := some (11, true) }) (v := .pointer (some ⟨R2, L, none⟩)) rfl (by kernel_rfl) (by kernel_rfl) (by kernel_rfl) (fun _ _ _ h => h) (Or.inl ⟨by rfl, fun w hSw => by (try dsimp only at hSw); go_simp⟩) hS1 ?_
              simp only [Act.put, List.setIfInBounds_toArray, List.set_cons_zero, List.set_cons_succ]
              refine wpAnyH_take (i := 15) (oi := { dst := some 138, op := Go.Op.load 35 (Go.Operand.tmp 137), type := 35, pos := "law.go:243", after := #[{ on := 14, ground := Go.Ground.data }, { on := 11, ground := Go.Ground.guard }], guard := some (11, true) }) (v := .int .u64 (V4 : Nat)) rfl (by kernel_rfl) (by kernel_rfl) (by kernel_rfl) (fun _ _ _ h => h) (Or.inl ⟨by rfl, fun w hSw => by (try dsimp only at hSw); go_simp⟩) hS1 ?_
              simp only [Act.put, List.setIfInBounds_toArray, List.set_cons_zero, List.set_cons_succ]
              refine wpAnyH_take (i := 16) (oi := { dst := some 139, op := Go.Op.load 48 (Go.Operand.tmp 3), type := 48, pos := "law.go:243", after := #[{ on := 11, ground := Go.Ground.guard }], guard := some (11, true) }) (v := .agg #[.int .i64 4, .int .i64 (hmN : Nat), .bool gg, .int .i64 (haN : Nat), .int .i64 (hnN : Nat), .int .i64 (hsN : Nat)]) rfl (by kernel_rfl) (by kernel_rfl) (by kernel_rfl) (fun _ _ _ h => h) (Or.inl ⟨by rfl, fun w hSw => by (try dsimp only at hSw); go_simp⟩) hS1 ?_
              simp only [Act.put, List.setIfInBounds_toArray, List.set_cons_zero, List.set_cons_succ]
              refine wpAnyH_ready (rs := [17]) (by kernel_rfl) (by simp) (AllReadyH.cons (o := { dst := some 140, op := Go.Op.call { callee := Go.Callee.value (Go.Operand.func 25), args := #[Go.Operand.tmp 139], argTypes := #[48] }, type := 35, pos := "law.go:243", after := #[{ on := 16, ground := Go.Ground.data }, { on := 11, ground := Go.Ground.chain }, { on := 11, ground := Go.Ground.guard }], guard := some (11, true) }) rfl (fun K1 hK => ?_) AllReadyH.nil)
              go_simp
              go_at_call 25
              with_reducible refine (c25d _).mono ?_
              rintro e w17 ⟨rfl, hb⟩
              (try simp only [])
              replace ds := ds.below hb; replace fr := fr.below hb; replace hd := hd.below hb; replace i1 := i1.below hb; replace i2 := i2.below hb; replace hR2 := words_below hR2 hb
              clear hb
              refine hK.out _ _ (fs_held hd fr zb.out zg.out hR2 hLX HX.out) (fun hS1 => ?_)
              (try simp only [Act.put, List.setIfInBounds_toArray, List.set_cons_zero, List.set_cons_succ])
              clear hK
              refine wpAnyH_take (i := 18) (oi := { dst := some 141, op := Go.Op.binOp Go.BinOp.eql 35 (Go.Operand.tmp 138) (Go.Operand.tmp 140) 35, type := 4, pos := "law.go:243", after := #[{ on := 15, ground := Go.Ground.data }, { on := 17, ground := Go.Ground.data }, { on := 11, ground := Go.Ground.guard }], guard := some (11, true) }) (v := .bool true) rfl (by kernel_rfl) (by kernel_rfl) (by kernel_rfl) (fun _ _ _ h => h) (Or.inl ⟨by rfl, fun w hSw => by (try dsimp only at hSw); go_simp⟩) hS1 ?_
              simp only [Act.put, List.setIfInBounds_toArray, List.set_cons_zero, List.set_cons_succ]
              refine wpAnyH_take (i := 19) (oi := { dst := some 142, op := Go.Op.pick (Go.Operand.tmp 134) (Go.Operand.tmp 141) (Go.Operand.const (Go.Value.bool false)), type := 4, pos := "law.go:243", after := #[{ on := 11, ground := Go.Ground.data }, { on := 18, ground := Go.Ground.data }], guard := none }) (v := .bool true) rfl (by kernel_rfl) (by kernel_rfl) (by kernel_rfl) (fun _ _ _ h => h) (Or.inl ⟨by rfl, fun w hSw => by (try dsimp only at hSw); go_simp⟩) hS1 ?_
              simp only [Act.put, List.setIfInBounds_toArray, List.set_cons_zero, List.set_cons_succ]
              refine wpAnyH_take (i := 20) (oi := { dst := some 143, op := Go.Op.move (Go.Operand.tmp 142), type := 4, pos := "law.go:243", after := #[{ on := 19, ground := Go.Ground.data }, { on := 17, ground := Go.Ground.chain }], guard := none }) (v := .bool true) rfl (by kernel_rfl) (by kernel_rfl) (by kernel_rfl) (fun _ _ _ h => h) (Or.inl ⟨by rfl, fun w hSw => by (try dsimp only at hSw); go_simp⟩) hS1 ?_
              simp only [Act.put, List.setIfInBounds_toArray, List.set_cons_zero, List.set_cons_succ]
              refine wpAnyH_take (i := 21) (oi := { dst := some 144, op := Go.Op.move (Go.Operand.tmp 10), type := 25, pos := "law.go:243", after := #[{ on := 20, ground := Go.Ground.guard }], guard := some (20, true) }) (v := v1) rfl (by kernel_rfl) (by kernel_rfl) (by kernel_rfl) (fun _ _ _ h => h) (Or.inl ⟨by rfl, fun w hSw => by (try dsimp only at hSw); go_simp⟩) hS1 ?_
              simp only [Act.put, List.setIfInBounds_toArray, List.set_cons_zero, List.set_cons_succ]
              refine wpAnyH_take (i := 22) (oi := { dst := some 145, op := Go.Op.move (Go.Operand.tmp 13), type := 25, pos := "law.go:243", after := #[{ on := 20, ground := Go.Ground.guard }], guard := some (20, true) }) (v := v2) rfl (by kernel_rfl) (by kernel_rfl) (by kernel_rfl) (fun _ _ _ h => h) (Or.inl ⟨by rfl, fun w hSw => by (try dsimp only at hSw); go_simp⟩) hS1 ?_
              simp only [Act.put, List.setIfInBounds_toArray, List.set_cons_zero, List.set_cons_succ]
              refine wpAnyH_ready (rs := [23]) (by kernel_rfl) (by simp) (AllReadyH.cons (o := { dst := some 146, op := Go.Op.call { callee := Go.Callee.value (Go.Operand.func 27), args := #[Go.Operand.tmp 144, Go.Operand.tmp 145], argTypes := #[25, 25] }, type := 4, pos := "law.go:243", after := #[{ on := 21, ground := Go.Ground.data }, { on := 22, ground := Go.Ground.data }, { on := 20, ground := Go.Ground.chain }, { on := 20, ground := Go.Ground.guard }], guard := some (20, true) }) rfl (fun K1 hK => ?_) AllReadyH.nil)
              go_simp
              go_at_call 27
              with_reducible refine (same_yes i1 i2 hFl).mono ?_
              rintro e w18 ⟨rfl, hb⟩
              (try simp only [])
              replace ds := ds.below hb; replace fr := fr.below hb; replace hd := hd.below hb; replace i1 := i1.below hb; replace i2 := i2.below hb; replace hR2 := words_below hR2 hb
              clear hb
              refine hK.out _ _ (fs_held hd fr zb.out zg.out hR2 hLX HX.out) (fun hS1 => ?_)
              (try simp only [Act.put, List.setIfInBounds_toArray, List.set_cons_zero, List.set_cons_succ])
              clear hK
              refine wpAnyH_take (i := 24) (oi := { dst := some 147, op := Go.Op.pick (Go.Operand.tmp 143) (Go.Operand.tmp 146) (Go.Operand.const (Go.Value.bool false)), type := 4, pos := "law.go:243", after := #[{ on := 20, ground := Go.Ground.data }, { on := 23, ground := Go.Ground.data }], guard := none }) (v := .bool true) rfl (by kernel_rfl) (by kernel_rfl) (by kernel_rfl) (fun _ _ _ h => h) (Or.inl ⟨by rfl, fun w hSw => by (try dsimp only at hSw); go_simp⟩) hS1 ?_
              simp only [Act.put, List.setIfInBounds_toArray, List.set_cons_zero, List.set_cons_succ]
              refine wpAnyH_take (i := 25) (oi := { dst := some 4, op := Go.Op.assign (Go.Operand.tmp 147), type := 4, pos := "law.go:243", after := #[{ on := 24, ground := Go.Ground.data }, { on := 23, ground := Go.Ground.chain }, { on := 0, ground := Go.Ground.phase }, { on := 1, ground := Go.Ground.phase }, { on := 2, ground := Go.Ground.phase }, { on := 3, ground := Go.Ground.phase }, { on := 4, ground := Go.Ground.phase }, { on := 5, ground := Go.Ground.phase }, { on := 6, ground := Go.Ground.phase }, { on := 7, ground := Go.Ground.phase }, { on := 8, ground := Go.Ground.phase }, { on := 9, ground := Go.Ground.phase }, { on := 10, ground := Go.Ground.phase }, { on := 11, ground := Go.Ground.phase }, { on := 12, ground := Go.Ground.phase }, { on := 13, ground := Go.Ground.phase }, { on := 14, ground := Go.Ground.phase }, { on := 15, ground := Go.Ground.phase }, { on := 16, ground := Go.Ground.phase }, { on := 17, ground := Go.Ground.phase }, { on := 18, ground := Go.Ground.phase }, { on := 19, ground := Go.Ground.phase }, { on := 20, ground := Go.Ground.phase }, { on := 21, ground := Go.Ground.phase }, { on := 22, ground := Go.Ground.phase }, { on := 23, ground := Go.Ground.phase }, { on := 24, ground := Go.Ground.phase }], guard := none }) (v := .bool true) rfl (by kernel_rfl) (by kernel_rfl) (by kernel_rfl) (fun _ _ _ h => h) (Or.inl ⟨by rfl, fun w hSw => by (try dsimp only at hSw); go_simp⟩) hS1 ?_
              simp only [Act.put, List.setIfInBounds_toArray, List.set_cons_zero, List.set_cons_succ]
              refine wpAnyH_done (by kernel_rfl) ?_ _
              clear hS1
              go_wp2
              all_goals (go_ret; exact ⟨rfl, ds.bel⟩)
            · have hk3 : hkN = 3 := by rw [a1] at hlw; simpa using hlw
              subst hk3
              have hg40 : K.g ≤ 40 := hg.2
              have hdd : (hnN : Int) + 1 < K.g := by
                refine Classical.byContradiction fun hx => ?_
                obtain ⟨e1, e2⟩ := fd_dead gg hr hx
                rw [hV.out] at e1
                rw [e1, e2] at a0
                omega
              obtain ⟨e1, e2⟩ := fd_free gg hr hdd hg40
              rw [hV.out] at e1
              rw [e1] at a4
              have hrf : Hr 0 0 0 (hnN + 1) 0 := ⟨by omega, by omega, by omega, by omega, by omega⟩
              have c25f : ∀ w, Calls Tryd.prog 25 #[.agg #[.int .i64 0, .int .i64 0, .bool false, .int .i64 0, .int .i64 ((hnN : Int) + 1), .int .i64 0]] w fun e w' => e = .returned (.int .u64 ((wordOf 0 0 (false : Bool).toNat 0 (hnN + 1) 0 : Nat) : Int)) ∧ Below w.heap.size w w' := fun w => by
                have q := Hh.rpack_any 0 0 false 0 (hnN + 1) 0 hrf.k hrf.m hrf.a hrf.n hrf.s w
                have e : ((hnN + 1 : Nat) : Int) = (hnN : Int) + 1 := by omega
                rw [e] at q
                exact q
              have hnlt := hr.n
              have qw : IntKind.i64.wrap ((hnN : Int) + 1) = (hnN : Int) + 1 := by rw [IntKind.wrap_i64]; omega
              have HTx : Hid (Top K X4 2 (0 :: F)) := a5
              have HX : Hid (X4.getD L 0 = wordOf 0 0 (false : Bool).toNat 0 (hnN + 1) 0) := by rw [hLe.out]; exact a4
              have zb : Hid (f4.back = true) := a2
              have zg : Hid (f4.gone = false) := a3
              have hLX : L < X4.length := by rw [a5.len]; exact hLN
              have hdd2 : ¬ K.g ≤ (hnN : Int) + 1 := by omega
              have hk3b : ((3 : Nat) : Int) = 3 := rfl
              clear HE' a0 a1 a2 a3 a4 a5 hlw e1 e2 hdd c25 hrf hV
              generalize wordOf 0 0 (false : Bool).toNat 0 (hnN + 1) 0 = VF at *
              go_upto_region 17 with (first
                | (go_at_call 13; refine (cW.out _ _ _ _ _ ds HTx.out).mono ?_; rintro e w15 ⟨R2, rfl, hR2, hX4, hRl2, hb⟩; have q3 := hd_lt hd; replace ds := ds.below hb; replace fr := fr.below hb; replace hd := hd.below hb; replace i1 := i1.below hb; clear l0 l1 l2 l3 l4 l5 m0 m1 m2 m3 m4 m5; obtain ⟨l0, l1, l2, l3, l4, l5⟩ := cds.out _ _ _ ds; obtain ⟨m0, m1, m2, m3, m4, m5⟩ := hd.cells)
                | (go_at_call 14; refine (cL.out _ _ _ _ _ hR2 HTx.out hX4).mono ?_; rintro e w16 ⟨v2, rfl, i2, hv2, hb⟩; have q4 := hd_lt hd; replace ds := ds.below hb; replace fr := fr.below hb; replace hd := hd.below hb; replace i1 := i1.below hb; replace hR2 := words_below hR2 hb; clear l0 l1 l2 l3 l4 l5 m0 m1 m2 m3 m4 m5; obtain ⟨l0, l1, l2, l3, l4, l5⟩ := cds.out _ _ _ ds; obtain ⟨m0, m1, m2, m3, m4, m5⟩ := hd.cells))
              obtain ⟨ad1, cap1, rfl, hc1, _⟩ := i1.form
              obtain ⟨ad2, cap2, hv2f, hc2, hf2⟩ := i2.form
              obtain ⟨g2, off2, rfl⟩ := hf2 (by simp)
              subst hv2f
              have cz : Hid (∀ wr, IsI wr (.slice (some ⟨g2, off2, none⟩) (0 :: F).length cap2) (0 :: F) → wr.cell? ⟨g2, off2, none⟩ = some (.int .i64 0)) := fun wr x => by have q := x.cell 0 (by simp); rw [Nat.add_zero] at q; exact q
              have ct : Hid (∀ wr, IsI wr (.slice ad1 F.length cap1) F → IsI wr (.slice (some ⟨g2, off2, none⟩) (0 :: F).length cap2) (0 :: F) → Calls Tryd.prog 27 #[.slice (if cap2 = 1 then some ⟨g2, off2, none⟩ else some ⟨g2, off2 + 1, none⟩) F.length (cap2 - 1), .slice ad1 F.length cap1] wr fun e w' => e = .returned (.bool true) ∧ Below wr.heap.size wr w') := fun wr x1 x2 => same_yes x2.tails x1 hFl
              simp only [List.length_cons] at cz ct i2 hc2 ⊢
              obtain ⟨nF, hnF⟩ : ∃ nF, F.length = nF := ⟨_, rfl⟩
              rw [hnF] at cz ct i1 i2 hc1 hc2 hFl ⊢
              have qw2 : IntKind.i64.wrap ((nF : Int) + 1) = (nF : Int) + 1 := by rw [IntKind.wrap_i64]; omega
              have h1c : (1 : Int) ≤ (cap2 : Int) := by omega
              have h1n : ¬ ((nF : Int) + 1 < 1) := by omega
              go_upto_region 22 with fail
              replace ds := ds.drew
              replace fr := fr.below (Below.refl _ _).drew
              replace hd := hd.below (Below.refl _ _).drew
              replace i1 := i1.below (Below.refl _ _).drew
              replace i2 := i2.below (Below.refl _ _).drew
              replace hR2 := words_below hR2 (Below.refl _ _).drew
              clear l0 l1 l2 l3 l4 l5 m0 m1 m2 m3 m4 m5
              have hS0 := And.intro (fs_held hd fr zb.out zg.out hR2 hLX HX.out) (cz.out _ i2)
              refine wp_region_held_drew (S := fun wr => ((wr.cell? ⟨w.heap.size + 1, 0, none⟩ = some (.int .i64 3) ∧ wr.cell? ⟨w.heap.size + 1, 1, none⟩ = some (.int .i64 (hmN : Nat)) ∧ wr.cell? ⟨w.heap.size + 1, 2, none⟩ = some (.bool gg) ∧ wr.cell? ⟨w.heap.size + 1, 3, none⟩ = some (.int .i64 (haN : Nat)) ∧ wr.cell? ⟨w.heap.size + 1, 4, none⟩ = some (.int .i64 (hnN : Nat)) ∧ wr.cell? ⟨w.heap.size + 1, 5, none⟩ = some (.int .i64 (hsN : Nat))) ∧ wr.cell? ⟨Q, 0, none⟩ = some (.bool true) ∧ wr.cell? ⟨Q, 1, none⟩ = some (.bool false) ∧ wr.cell? ⟨R2, L, none⟩ = some (.int .u64 (VF : Nat))) ∧ wr.cell? ⟨g2, off2, none⟩ = some (.int .i64 0)) (by kernel_rfl) hS0 (fun hS1 => ?_)
              clear hS0
              refine wpAnyH_take (i := 0) (oi := { dst := some 148, op := Go.Op.move (Go.Operand.tmp 7), type := 39, pos := "law.go:245", after := #[], guard := none }) (v := .pointer (some ⟨Q, 0, none⟩)) rfl (by kernel_rfl) (by kernel_rfl) (by kernel_rfl) (fun _ _ _ h => h) (Or.inl ⟨by rfl, fun w hSw => by (try dsimp only at hSw); go_simp⟩) hS1 ?_
              simp only [Act.put, List.setIfInBounds_toArray, List.set_cons_zero, List.set_cons_succ]
              refine wpAnyH_take (i := 1) (oi := { dst := some 149, op := Go.Op.nilCheck (Go.Operand.tmp 148), type := 0, pos := "law.go:245", after := #[{ on := 0, ground := Go.Ground.data }], guard := none }) (v := .pointer (some ⟨Q, 0, none⟩)) rfl (by kernel_rfl) (by kernel_rfl) (by kernel_rfl) (fun _ _ _ h => h) (Or.inl ⟨by rfl, fun w hSw => by (try dsimp only at hSw); go_simp⟩) hS1 ?_
              simp only [Act.put, List.setIfInBounds_toArray, List.set_cons_zero, List.set_cons_succ]
              refine wpAnyH_take (i := 2) (oi := { dst := some 150, op := Go.Op.fieldAddr 72 (Go.Operand.tmp 149) 0, type := 0, pos := "law.go:245", after := #[{ on := 1, ground := Go.Ground.data }], guard := none }) (v := .pointer (some ⟨Q, 0, none⟩)) rfl (by kernel_rfl) (by kernel_rfl) (by kernel_rfl) (fun _ _ _ h => h) (Or.inl ⟨by rfl, fun w hSw => by (try dsimp only at hSw); go_simp⟩) hS1 ?_
              simp only [Act.put, List.setIfInBounds_toArray, List.set_cons_zero, List.set_cons_succ]
              refine wpAnyH_take (i := 3) (oi := { dst := some 151, op := Go.Op.load 4 (Go.Operand.tmp 150), type := 4, pos := "law.go:245", after := #[{ on := 2, ground := Go.Ground.data }], guard := none }) (v := .bool true) rfl (by kernel_rfl) (by kernel_rfl) (by kernel_rfl) (fun _ _ _ h => h) (Or.inl ⟨by rfl, fun w hSw => by (try dsimp only at hSw); go_simp⟩) hS1 ?_
              simp only [Act.put, List.setIfInBounds_toArray, List.set_cons_zero, List.set_cons_succ]
              refine wpAnyH_take (i := 4) (oi := { dst := some 152, op := Go.Op.move (Go.Operand.tmp 151), type := 4, pos := "law.go:245", after := #[{ on := 3, ground := Go.Ground.data }], guard := none }) (v := .bool true) rfl (by kernel_rfl) (by kernel_rfl) (by kernel_rfl) (fun _ _ _ h => h) (Or.inl ⟨by rfl, fun w hSw => by (try dsimp only at hSw); go_simp⟩) hS1 ?_
              simp only [Act.put, List.setIfInBounds_toArray, List.set_cons_zero, List.set_cons_succ]
              refine wpAnyH_take (i := 5) (oi := { dst := some 153, op := Go.Op.move (Go.Operand.tmp 7), type := 39, pos := "law.go:245", after := #[{ on := 4, ground := Go.Ground.guard }], guard := some (4, true) }) (v := .pointer (some ⟨Q, 0, none⟩)) rfl (by kernel_rfl) (by kernel_rfl) (by kernel_rfl) (fun _ _ _ h => h) (Or.inl ⟨by rfl, fun w hSw => by (try dsimp only at hSw); go_simp⟩) hS1 ?_
              simp only [Act.put, List.setIfInBounds_toArray, List.set_cons_zero, List.set_cons_succ]
              refine wpAnyH_take (i := 6) (oi := { dst := some 154, op := Go.Op.nilCheck (Go.Operand.tmp 153), type := 0, pos := "law.go:245", after := #[{ on := 5, ground := Go.Ground.data }, { on := 4, ground := Go.Ground.guard }], guard := some (4, true) }) (v := .pointer (some ⟨Q, 0, none⟩)) rfl (by kernel_rfl) (by kernel_rfl) (by kernel_rfl) (fun _ _ _ h => h) (Or.inl ⟨by rfl, fun w hSw => by (try dsimp only at hSw); go_simp⟩) hS1 ?_
              simp only [Act.put, List.setIfInBounds_toArray, List.set_cons_zero, List.set_cons_succ]
              refine wpAnyH_take (i := 7) (oi := { dst := some 155, op := Go.Op.fieldAddr 72 (Go.Operand.tmp 154) 1, type := 0, pos := "law.go:245", after := #[{ on := 6, ground := Go.Ground.data }, { on := 4, ground := Go.Ground.guard }], guard := some (4, true) }) (v := .pointer (some ⟨Q, 1, none⟩)) rfl (by kernel_rfl) (by kernel_rfl) (by kernel_rfl) (fun _ _ _ h => h) (Or.inl ⟨by rfl, fun w hSw => by (try dsimp only at hSw); go_simp⟩) hS1 ?_
              simp only [Act.put, List.setIfInBounds_toArray, List.set_cons_zero, List.set_cons_succ]
              refine wpAnyH_take (i := 8) (oi := { dst := some 156, op := Go.Op.load 4 (Go.Operand.tmp 155), type := 4, pos := "law.go:245", after := #[{ on := 7, ground := Go.Ground.data }, { on := 4, ground := Go.Ground.guard }], guard := some (4, true) }) (v := .bool false) rfl (by kernel_rfl) (by kernel_rfl) (by kernel_rfl) (fun _ _ _ h => h) (Or.inl ⟨by rfl, fun w hSw => by (try dsimp only at hSw); go_simp⟩) hS1 ?_
              simp only [Act.put, List.setIfInBounds_toArray, List.set_cons_zero, List.set_cons_succ]
              refine wpAnyH_take (i := 9) (oi := { dst := some 157, op := Go.Op.unOp Go.UnOp.not 4 (Go.Operand.tmp 156), type := 4, pos := "law.go:245", after := #[{ on := 8, ground := Go.Ground.data }, { on := 4, ground := Go.Ground.guard }], guard := some (4, true) }) (v := .bool true) rfl (by kernel_rfl) (by kernel_rfl) (by kernel_rfl) (fun _ _ _ h => h) (Or.inl ⟨by rfl, fun w hSw => by (try dsimp only at hSw); go_simp⟩) hS1 ?_
              simp only [Act.put, List.setIfInBounds_toArray, List.set_cons_zero, List.set_cons_succ]
              refine wpAnyH_take (i := 10) (oi := { dst := some 158, op := Go.Op.pick (Go.Operand.tmp 152) (Go.Operand.tmp 157) (Go.Operand.const (Go.Value.bool false)), type := 4, pos := "law.go:245", after := #[{ on := 4, ground := Go.Ground.data }, { on := 9, ground := Go.Ground.data }], guard := none }) (v := .bool true) rfl (by kernel_rfl) (by kernel_rfl) (by kernel_rfl) (fun _ _ _ h => h) (Or.inl ⟨by rfl, fun w hSw => by (try dsimp only at hSw); go_simp⟩) hS1 ?_
              simp only [Act.put, List.setIfInBounds_toArray, List.set_cons_zero, List.set_cons_succ]
              refine wpAnyH_take (i := 11) (oi := { dst := some 159, op := Go.Op.move (Go.Operand.tmp 158), type := 4, pos := "law.go:245", after := #[{ on := 10, ground := Go.Ground.data }, { on := 4, ground := Go.Ground.chain }], guard := none }) (v := .bool true) rfl (by kernel_rfl) (by kernel_rfl) (by kernel_rfl) (fun _ _ _ h => h) (Or.inl ⟨by rfl, fun w hSw => by (try dsimp only at hSw); go_simp⟩) hS1 ?_
              simp only [Act.put, List.setIfInBounds_toArray, List.set_cons_zero, List.set_cons_succ]
              refine wpAnyH_take (i := 12) (oi := { dst := some 160, op := Go.Op.move (Go.Operand.tmp 12), type := 44, pos := "law.go:245", after := #[{ on := 11, ground := Go.Ground.guard }], guard := some (11, true) }) (v := .slice (some ⟨R2, 0, none⟩) K.N K.N) rfl (by kernel_rfl) (by kernel_rfl) (by kernel_rfl) (fun _ _ _ h => h) (Or.inl ⟨by rfl, fun w hSw => by (try dsimp only at hSw); go_simp⟩) hS1 ?_
              simp only [Act.put, List.setIfInBounds_toArray, List.set_cons_zero, List.set_cons_succ]
              refine wpAnyH_take (i := 13) (oi := { dst := some 161, op := Go.Op.move (Go.Operand.tmp 9), type := 3, pos := "law.go:245", after := #[{ on := 11, ground := Go.Ground.guard }], guard := some (11, true) }) (v := .int .i64 (L : Nat)) rfl (by kernel_rfl) (by kernel_rfl) (by kernel_rfl) (fun _ _ _ h => h) (Or.inl ⟨by rfl, fun w hSw => by (try dsimp only at hSw); go_simp⟩) hS1 ?_
              simp only [Act.put, List.setIfInBounds_toArray, List.set_cons_zero, List.set_cons_succ]
              refine wpAnyH_take (i := 14) (oi := { dst := some 162, op := Go.Op.indexAddr 44 (Go.Operand.tmp 160) (Go.Operand.tmp 161), type := 0, pos := "law.go:245", after := #[{ on := 12, ground := Go.Ground.data }, { on := 13, ground := Go.Ground.data }, { on := 11, ground := Go.Ground.guard }], guard := some (11, true) }) (v := .pointer (some ⟨R2, L, none⟩)) rfl (by kernel_rfl) (by kernel_rfl) (by kernel_rfl) (fun _ _ _ h => h) (Or.inl ⟨by rfl, fun w hSw => by (try dsimp only at hSw); go_simp⟩) hS1 ?_
              simp only [Act.put, List.setIfInBounds_toArray, List.set_cons_zero, List.set_cons_succ]
              refine wpAnyH_take (i := 15) (oi := { dst := some 163, op := Go.Op.load 35 (Go.Operand.tmp 162), type := 35, pos := "law.go:245", after := #[{ on := 14, ground := Go.Ground.data }, { on := 11, ground := Go.Ground.guard }], guard := some (11, true) }) (v := .int .u64 (VF : Nat)) rfl (by kernel_rfl) (by kernel_rfl) (by kernel_rfl) (fun _ _ _ h => h) (Or.inl ⟨by rfl, fun w hSw => by (try dsimp only at hSw); go_simp⟩) hS1 ?_
              simp only [Act.put, List.setIfInBounds_toArray, List.set_cons_zero, List.set_cons_succ]
              refine wpAnyH_take (i := 16) (oi := { dst := some 164, op := Go.Op.fieldAddr 48 (Go.Operand.tmp 3) 4, type := 0, pos := "law.go:245", after := #[{ on := 11, ground := Go.Ground.guard }], guard := some (11, true) }) (v := .pointer (some ⟨w.heap.size + 1, 4, none⟩)) rfl (by kernel_rfl) (by kernel_rfl) (by kernel_rfl) (fun _ _ _ h => h) (Or.inl ⟨by rfl, fun w hSw => by (try dsimp only at hSw); go_simp⟩) hS1 ?_
              simp only [Act.put, List.setIfInBounds_toArray, List.set_cons_zero, List.set_cons_succ]
              refine wpAnyH_take (i := 17) (oi := { dst := some 165, op := Go.Op.load 3 (Go.Operand.tmp 164), type := 3, pos := "law.go:245", after := #[{ on := 16, ground := Go.Ground.data }, { on := 11, ground := Go.Ground.guard }], guard := some (11, true) }) (v := .int .i64 (hnN : Nat)) rfl (by kernel_rfl) (by kernel_rfl) (by kernel_rfl) (fun _ _ _ h => h) (Or.inl ⟨by rfl, fun w hSw => by (try dsimp only at hSw); go_simp⟩) hS1 ?_
              simp only [Act.put, List.setIfInBounds_toArray, List.set_cons_zero, List.set_cons_succ]
              refine wpAnyH_take (i := 18) (oi := { dst := some 166, op := Go.Op.binOp Go.BinOp.add 3 (Go.Operand.tmp 165) (Go.Operand.const (Go.Value.int Go.IntKind.i64 1)) 3, type := 3, pos := "law.go:245", after := #[{ on := 17, ground := Go.Ground.data }, { on := 11, ground := Go.Ground.guard }], guard := some (11, true) }) (v := .int .i64 ((hnN : Int) + 1)) rfl (by kernel_rfl) (by kernel_rfl) (by kernel_rfl) (fun _ _ _ h => h) (Or.inl ⟨by rfl, fun w hSw => by (try dsimp only at hSw); go_simp⟩) hS1 ?_
              simp only [Act.put, List.setIfInBounds_toArray, List.set_cons_zero, List.set_cons_succ]
              refine wpAnyH_take (i := 19) (oi := { dst := some 167, op := Go.Op.build 48 #[(4, Go.Operand.tmp 166)], type := 48, pos := "law.go:245", after := #[{ on := 18, ground := Go.Ground.data }, { on := 11, ground := Go.Ground.guard }], guard := some (11, true) }) (v := .agg #[.int .i64 0, .int .i64 0, .bool false, .int .i64 0, .int .i64 ((hnN : Int) + 1), .int .i64 0]) rfl (by kernel_rfl) (by kernel_rfl) (by kernel_rfl) (fun _ _ _ h => h) (Or.inl ⟨by rfl, fun w hSw => by (try dsimp only at hSw); go_simp⟩) hS1 ?_
              simp only [Act.put, List.setIfInBounds_toArray, List.set_cons_zero, List.set_cons_succ]
              refine wpAnyH_ready (rs := [20]) (by kernel_rfl) (by simp) (AllReadyH.cons (o := { dst := some 168, op := Go.Op.call { callee := Go.Callee.value (Go.Operand.func 25), args := #[Go.Operand.tmp 167], argTypes := #[48] }, type := 35, pos := "law.go:245", after := #[{ on := 19, ground := Go.Ground.data }, { on := 11, ground := Go.Ground.chain }, { on := 11, ground := Go.Ground.guard }], guard := some (11, true) }) rfl (fun K1 hK => ?_) AllReadyH.nil)
              go_simp
              go_at_call 25
              with_reducible refine (c25f _).mono ?_
              rintro e w17 ⟨rfl, hb⟩
              (try simp only [])
              replace ds := ds.below hb; replace fr := fr.below hb; replace hd := hd.below hb; replace i1 := i1.below hb; replace i2 := i2.below hb; replace hR2 := words_below hR2 hb
              clear hb
              refine hK.out _ _ (And.intro (fs_held hd fr zb.out zg.out hR2 hLX HX.out) (cz.out _ i2)) (fun hS1 => ?_)
              (try simp only [Act.put, List.setIfInBounds_toArray, List.set_cons_zero, List.set_cons_succ])
              clear hK
              refine wpAnyH_take (i := 21) (oi := { dst := some 169, op := Go.Op.binOp Go.BinOp.eql 35 (Go.Operand.tmp 163) (Go.Operand.tmp 168) 35, type := 4, pos := "law.go:245", after := #[{ on := 15, ground := Go.Ground.data }, { on := 20, ground := Go.Ground.data }, { on := 11, ground := Go.Ground.guard }], guard := some (11, true) }) (v := .bool true) rfl (by kernel_rfl) (by kernel_rfl) (by kernel_rfl) (fun _ _ _ h => h) (Or.inl ⟨by rfl, fun w hSw => by (try dsimp only at hSw); go_simp⟩) hS1 ?_
              simp only [Act.put, List.setIfInBounds_toArray, List.set_cons_zero, List.set_cons_succ]
              refine wpAnyH_take (i := 22) (oi := { dst := some 170, op := Go.Op.pick (Go.Operand.tmp 159) (Go.Operand.tmp 169) (Go.Operand.const (Go.Value.bool false)), type := 4, pos := "law.go:245", after := #[{ on := 11, ground := Go.Ground.data }, { on := 21, ground := Go.Ground.data }], guard := none }) (v := .bool true) rfl (by kernel_rfl) (by kernel_rfl) (by kernel_rfl) (fun _ _ _ h => h) (Or.inl ⟨by rfl, fun w hSw => by (try dsimp only at hSw); go_simp⟩) hS1 ?_
              simp only [Act.put, List.setIfInBounds_toArray, List.set_cons_zero, List.set_cons_succ]
              refine wpAnyH_take (i := 23) (oi := { dst := some 171, op := Go.Op.move (Go.Operand.tmp 170), type := 4, pos := "law.go:245", after := #[{ on := 22, ground := Go.Ground.data }, { on := 20, ground := Go.Ground.chain }], guard := none }) (v := .bool true) rfl (by kernel_rfl) (by kernel_rfl) (by kernel_rfl) (fun _ _ _ h => h) (Or.inl ⟨by rfl, fun w hSw => by (try dsimp only at hSw); go_simp⟩) hS1 ?_
              simp only [Act.put, List.setIfInBounds_toArray, List.set_cons_zero, List.set_cons_succ]
              refine wpAnyH_take (i := 24) (oi := { dst := some 172, op := Go.Op.move (Go.Operand.tmp 13), type := 25, pos := "law.go:245", after := #[{ on := 23, ground := Go.Ground.guard }], guard := some (23, true) }) (v := .slice (some ⟨g2, off2, none⟩) (nF + 1) cap2) rfl (by kernel_rfl) (by kernel_rfl) (by kernel_rfl) (fun _ _ _ h => h) (Or.inl ⟨by rfl, fun w hSw => by (try dsimp only at hSw); go_simp⟩) hS1 ?_
              simp only [Act.put, List.setIfInBounds_toArray, List.set_cons_zero, List.set_cons_succ]
              refine wpAnyH_take (i := 25) (oi := { dst := some 173, op := Go.Op.call { callee := Go.Callee.builtin Go.Builtin.len, args := #[Go.Operand.tmp 172], argTypes := #[25] }, type := 3, pos := "law.go:245", after := #[{ on := 24, ground := Go.Ground.data }, { on := 23, ground := Go.Ground.guard }], guard := some (23, true) }) (v := .int .i64 ((nF : Int) + 1)) rfl (by kernel_rfl) (by kernel_rfl) (by kernel_rfl) (fun _ _ _ h => h) (Or.inl ⟨by rfl, fun w hSw => by (try dsimp only at hSw); go_simp⟩) hS1 ?_
              simp only [Act.put, List.setIfInBounds_toArray, List.set_cons_zero, List.set_cons_succ]
              refine wpAnyH_take (i := 26) (oi := { dst := some 174, op := Go.Op.move (Go.Operand.tmp 10), type := 25, pos := "law.go:245", after := #[{ on := 23, ground := Go.Ground.guard }], guard := some (23, true) }) (v := .slice ad1 nF cap1) rfl (by kernel_rfl) (by kernel_rfl) (by kernel_rfl) (fun _ _ _ h => h) (Or.inl ⟨by rfl, fun w hSw => by (try dsimp only at hSw); go_simp⟩) hS1 ?_
              simp only [Act.put, List.setIfInBounds_toArray, List.set_cons_zero, List.set_cons_succ]
              refine wpAnyH_take (i := 27) (oi := { dst := some 175, op := Go.Op.call { callee := Go.Callee.builtin Go.Builtin.len, args := #[Go.Operand.tmp 174], argTypes := #[25] }, type := 3, pos := "law.go:245", after := #[{ on := 26, ground := Go.Ground.data }, { on := 23, ground := Go.Ground.guard }], guard := some (23, true) }) (v := .int .i64 (nF : Nat)) rfl (by kernel_rfl) (by kernel_rfl) (by kernel_rfl) (fun _ _ _ h => h) (Or.inl ⟨by rfl, fun w hSw => by (try dsimp only at hSw); go_simp⟩) hS1 ?_
              simp only [Act.put, List.setIfInBounds_toArray, List.set_cons_zero, List.set_cons_succ]
              refine wpAnyH_take (i := 28) (oi := { dst := some 176, op := Go.Op.binOp Go.BinOp.add 3 (Go.Operand.tmp 175) (Go.Operand.const (Go.Value.int Go.IntKind.i64 1)) 3, type := 3, pos := "law.go:245", after := #[{ on := 27, ground := Go.Ground.data }, { on := 23, ground := Go.Ground.guard }], guard := some (23, true) }) (v := .int .i64 ((nF : Int) + 1)) rfl (by kernel_rfl) (by kernel_rfl) (by kernel_rfl) (fun _ _ _ h => h) (Or.inl ⟨by rfl, fun w hSw => by (try dsimp only at hSw); go_simp⟩) hS1 ?_
              simp only [Act.put, List.setIfInBounds_toArray, List.set_cons_zero, List.set_cons_succ]
              refine wpAnyH_take (i := 29) (oi := { dst := some 177, op := Go.Op.binOp Go.BinOp.eql 3 (Go.Operand.tmp 173) (Go.Operand.tmp 176) 3, type := 4, pos := "law.go:245", after := #[{ on := 25, ground := Go.Ground.data }, { on := 28, ground := Go.Ground.data }, { on := 23, ground := Go.Ground.guard }], guard := some (23, true) }) (v := .bool true) rfl (by kernel_rfl) (by kernel_rfl) (by kernel_rfl) (fun _ _ _ h => h) (Or.inl ⟨by rfl, fun w hSw => by (try dsimp only at hSw); go_simp⟩) hS1 ?_
              simp only [Act.put, List.setIfInBounds_toArray, List.set_cons_zero, List.set_cons_succ]
              refine wpAnyH_take (i := 30) (oi := { dst := some 178, op := Go.Op.pick (Go.Operand.tmp 171) (Go.Operand.tmp 177) (Go.Operand.const (Go.Value.bool false)), type := 4, pos := "law.go:245", after := #[{ on := 23, ground := Go.Ground.data }, { on := 29, ground := Go.Ground.data }], guard := none }) (v := .bool true) rfl (by kernel_rfl) (by kernel_rfl) (by kernel_rfl) (fun _ _ _ h => h) (Or.inl ⟨by rfl, fun w hSw => by (try dsimp only at hSw); go_simp⟩) hS1 ?_
              simp only [Act.put, List.setIfInBounds_toArray, List.set_cons_zero, List.set_cons_succ]
              refine wpAnyH_take (i := 31) (oi := { dst := some 179, op := Go.Op.move (Go.Operand.tmp 178), type := 4, pos := "law.go:245", after := #[{ on := 30, ground := Go.Ground.data }, { on := 23, ground := Go.Ground.chain }], guard := none }) (v := .bool true) rfl (by kernel_rfl) (by kernel_rfl) (by kernel_rfl) (fun _ _ _ h => h) (Or.inl ⟨by rfl, fun w hSw => by (try dsimp only at hSw); go_simp⟩) hS1 ?_
              simp only [Act.put, List.setIfInBounds_toArray, List.set_cons_zero, List.set_cons_succ]
              refine wpAnyH_take (i := 32) (oi := { dst := some 180, op := Go.Op.move (Go.Operand.tmp 13), type := 25, pos := "law.go:245", after := #[{ on := 31, ground := Go.Ground.guard }], guard := some (31, true) }) (v := .slice (some ⟨g2, off2, none⟩) (nF + 1) cap2) rfl (by kernel_rfl) (by kernel_rfl) (by kernel_rfl) (fun _ _ _ h => h) (Or.inl ⟨by rfl, fun w hSw => by (try dsimp only at hSw); go_simp⟩) hS1 ?_
              simp only [Act.put, List.setIfInBounds_toArray, List.set_cons_zero, List.set_cons_succ]
              refine wpAnyH_take (i := 33) (oi := { dst := some 181, op := Go.Op.indexAddr 25 (Go.Operand.tmp 180) (Go.Operand.const (Go.Value.int Go.IntKind.i64 0)), type := 0, pos := "law.go:245", after := #[{ on := 32, ground := Go.Ground.data }, { on := 31, ground := Go.Ground.guard }], guard := some (31, true) }) (v := .pointer (some ⟨g2, off2, none⟩)) rfl (by kernel_rfl) (by kernel_rfl) (by kernel_rfl) (fun _ _ _ h => h) (Or.inl ⟨by rfl, fun w hSw => by (try dsimp only at hSw); go_simp⟩) hS1 ?_
              simp only [Act.put, List.setIfInBounds_toArray, List.set_cons_zero, List.set_cons_succ]
              refine wpAnyH_take (i := 34) (oi := { dst := some 182, op := Go.Op.load 3 (Go.Operand.tmp 181), type := 3, pos := "law.go:245", after := #[{ on := 33, ground := Go.Ground.data }, { on := 31, ground := Go.Ground.guard }], guard := some (31, true) }) (v := .int .i64 0) rfl (by kernel_rfl) (by kernel_rfl) (by kernel_rfl) (fun _ _ _ h => h) (Or.inl ⟨by rfl, fun w hSw => by (try dsimp only at hSw); go_simp⟩) hS1 ?_
              simp only [Act.put, List.setIfInBounds_toArray, List.set_cons_zero, List.set_cons_succ]
              refine wpAnyH_take (i := 35) (oi := { dst := some 183, op := Go.Op.binOp Go.BinOp.eql 3 (Go.Operand.tmp 182) (Go.Operand.const (Go.Value.int Go.IntKind.i64 0)) 3, type := 4, pos := "law.go:245", after := #[{ on := 34, ground := Go.Ground.data }, { on := 31, ground := Go.Ground.guard }], guard := some (31, true) }) (v := .bool true) rfl (by kernel_rfl) (by kernel_rfl) (by kernel_rfl) (fun _ _ _ h => h) (Or.inl ⟨by rfl, fun w hSw => by (try dsimp only at hSw); go_simp⟩) hS1 ?_
              simp only [Act.put, List.setIfInBounds_toArray, List.set_cons_zero, List.set_cons_succ]
              refine wpAnyH_take (i := 36) (oi := { dst := some 184, op := Go.Op.pick (Go.Operand.tmp 179) (Go.Operand.tmp 183) (Go.Operand.const (Go.Value.bool false)), type := 4, pos := "law.go:245", after := #[{ on := 31, ground := Go.Ground.data }, { on := 35, ground := Go.Ground.data }], guard := none }) (v := .bool true) rfl (by kernel_rfl) (by kernel_rfl) (by kernel_rfl) (fun _ _ _ h => h) (Or.inl ⟨by rfl, fun w hSw => by (try dsimp only at hSw); go_simp⟩) hS1 ?_
              simp only [Act.put, List.setIfInBounds_toArray, List.set_cons_zero, List.set_cons_succ]
              refine wpAnyH_take (i := 37) (oi := { dst := some 185, op := Go.Op.move (Go.Operand.tmp 184), type := 4, pos := "law.go:245", after := #[{ on := 36, ground := Go.Ground.data }, { on := 31, ground := Go.Ground.chain }], guard := none }) (v := .bool true) rfl (by kernel_rfl) (by kernel_rfl) (by kernel_rfl) (fun _ _ _ h => h) (Or.inl ⟨by rfl, fun w hSw => by (try dsimp only at hSw); go_simp⟩) hS1 ?_
              simp only [Act.put, List.setIfInBounds_toArray, List.set_cons_zero, List.set_cons_succ]
              refine wpAnyH_take (i := 38) (oi := { dst := some 186, op := Go.Op.move (Go.Operand.tmp 13), type := 25, pos := "law.go:245", after := #[{ on := 37, ground := Go.Ground.guard }], guard := some (37, true) }) (v := .slice (some ⟨g2, off2, none⟩) (nF + 1) cap2) rfl (by kernel_rfl) (by kernel_rfl) (by kernel_rfl) (fun _ _ _ h => h) (Or.inl ⟨by rfl, fun w hSw => by (try dsimp only at hSw); go_simp⟩) hS1 ?_
              simp only [Act.put, List.setIfInBounds_toArray, List.set_cons_zero, List.set_cons_succ]
              refine wpAnyH_take (i := 39) (oi := { dst := some 187, op := Go.Op.slice 25 (Go.Operand.tmp 186) (some (Go.Operand.const (Go.Value.int Go.IntKind.i64 1))) none none, type := 25, pos := "law.go:245", after := #[{ on := 38, ground := Go.Ground.data }, { on := 37, ground := Go.Ground.guard }], guard := some (37, true) }) (v := .slice (if cap2 = 1 then some ⟨g2, off2, none⟩ else some ⟨g2, off2 + 1, none⟩) nF (cap2 - 1)) rfl (by kernel_rfl) (by kernel_rfl) (by kernel_rfl) (fun _ _ _ h => h) (Or.inl ⟨by rfl, fun w hSw => by (try dsimp only at hSw); go_simp⟩) hS1 ?_
              simp only [Act.put, List.setIfInBounds_toArray, List.set_cons_zero, List.set_cons_succ]
              refine wpAnyH_take (i := 40) (oi := { dst := some 188, op := Go.Op.move (Go.Operand.tmp 10), type := 25, pos := "law.go:245", after := #[{ on := 37, ground := Go.Ground.guard }], guard := some (37, true) }) (v := .slice ad1 nF cap1) rfl (by kernel_rfl) (by kernel_rfl) (by kernel_rfl) (fun _ _ _ h => h) (Or.inl ⟨by rfl, fun w hSw => by (try dsimp only at hSw); go_simp⟩) hS1 ?_
              simp only [Act.put, List.setIfInBounds_toArray, List.set_cons_zero, List.set_cons_succ]
              refine wpAnyH_ready (rs := [41]) (by kernel_rfl) (by simp) (AllReadyH.cons (o := { dst := some 189, op := Go.Op.call { callee := Go.Callee.value (Go.Operand.func 27), args := #[Go.Operand.tmp 187, Go.Operand.tmp 188], argTypes := #[25, 25] }, type := 4, pos := "law.go:245", after := #[{ on := 39, ground := Go.Ground.data }, { on := 40, ground := Go.Ground.data }, { on := 37, ground := Go.Ground.chain }, { on := 37, ground := Go.Ground.guard }], guard := some (37, true) }) rfl (fun K1 hK => ?_) AllReadyH.nil)
              go_simp
              go_at_call 27
              with_reducible refine (ct.out _ i1 i2).mono ?_
              rintro e w18 ⟨rfl, hb⟩
              (try simp only [])
              replace ds := ds.below hb; replace fr := fr.below hb; replace hd := hd.below hb; replace i1 := i1.below hb; replace i2 := i2.below hb; replace hR2 := words_below hR2 hb
              clear hb
              refine hK.out _ _ (And.intro (fs_held hd fr zb.out zg.out hR2 hLX HX.out) (cz.out _ i2)) (fun hS1 => ?_)
              (try simp only [Act.put, List.setIfInBounds_toArray, List.set_cons_zero, List.set_cons_succ])
              clear hK
              refine wpAnyH_take (i := 42) (oi := { dst := some 190, op := Go.Op.pick (Go.Operand.tmp 185) (Go.Operand.tmp 189) (Go.Operand.const (Go.Value.bool false)), type := 4, pos := "law.go:245", after := #[{ on := 37, ground := Go.Ground.data }, { on := 41, ground := Go.Ground.data }], guard := none }) (v := .bool true) rfl (by kernel_rfl) (by kernel_rfl) (by kernel_rfl) (fun _ _ _ h => h) (Or.inl ⟨by rfl, fun w hSw => by (try dsimp only at hSw); go_simp⟩) hS1 ?_
              simp only [Act.put, List.setIfInBounds_toArray, List.set_cons_zero, List.set_cons_succ]
              refine wpAnyH_take (i := 43) (oi := { dst := some 191, op := Go.Op.move (Go.Operand.tmp 190), type := 4, pos := "law.go:245", after := #[{ on := 42, ground := Go.Ground.data }, { on := 41, ground := Go.Ground.chain }], guard := none }) (v := .bool true) rfl (by kernel_rfl) (by kernel_rfl) (by kernel_rfl) (fun _ _ _ h => h) (Or.inl ⟨by rfl, fun w hSw => by (try dsimp only at hSw); go_simp⟩) hS1 ?_
              simp only [Act.put, List.setIfInBounds_toArray, List.set_cons_zero, List.set_cons_succ]
              refine wpAnyH_ready (rs := [44]) (by kernel_rfl) (by simp) (AllReadyH.cons (o := { dst := some 192, op := Go.Op.call { callee := Go.Callee.value (Go.Operand.func 10), args := #[], argTypes := #[] }, type := 4, pos := "law.go:245", after := #[{ on := 43, ground := Go.Ground.chain }, { on := 43, ground := Go.Ground.guard }], guard := some (43, true) }) rfl (fun K1 hK => ?_) AllReadyH.nil)
              go_simp
              go_at_call 10
              with_reducible refine (awake_any _ ds.wt).mono ?_
              rintro e w19 ⟨rfl, hb⟩
              (try simp only [])
              replace ds := ds.below hb; replace fr := fr.below hb; replace hd := hd.below hb; replace i1 := i1.below hb; replace i2 := i2.below hb; replace hR2 := words_below hR2 hb
              clear hb
              refine hK.out _ _ (And.intro (fs_held hd fr zb.out zg.out hR2 hLX HX.out) (cz.out _ i2)) (fun hS1 => ?_)
              (try simp only [Act.put, List.setIfInBounds_toArray, List.set_cons_zero, List.set_cons_succ])
              clear hK
              refine wpAnyH_take (i := 45) (oi := { dst := some 193, op := Go.Op.pick (Go.Operand.tmp 191) (Go.Operand.tmp 192) (Go.Operand.const (Go.Value.bool false)), type := 4, pos := "law.go:245", after := #[{ on := 43, ground := Go.Ground.data }, { on := 44, ground := Go.Ground.data }], guard := none }) (v := .bool true) rfl (by kernel_rfl) (by kernel_rfl) (by kernel_rfl) (fun _ _ _ h => h) (Or.inl ⟨by rfl, fun w hSw => by (try dsimp only at hSw); go_simp⟩) hS1 ?_
              simp only [Act.put, List.setIfInBounds_toArray, List.set_cons_zero, List.set_cons_succ]
              refine wpAnyH_take (i := 46) (oi := { dst := some 4, op := Go.Op.assign (Go.Operand.tmp 193), type := 4, pos := "law.go:245", after := #[{ on := 45, ground := Go.Ground.data }, { on := 44, ground := Go.Ground.chain }, { on := 0, ground := Go.Ground.phase }, { on := 1, ground := Go.Ground.phase }, { on := 2, ground := Go.Ground.phase }, { on := 3, ground := Go.Ground.phase }, { on := 4, ground := Go.Ground.phase }, { on := 5, ground := Go.Ground.phase }, { on := 6, ground := Go.Ground.phase }, { on := 7, ground := Go.Ground.phase }, { on := 8, ground := Go.Ground.phase }, { on := 9, ground := Go.Ground.phase }, { on := 10, ground := Go.Ground.phase }, { on := 11, ground := Go.Ground.phase }, { on := 12, ground := Go.Ground.phase }, { on := 13, ground := Go.Ground.phase }, { on := 14, ground := Go.Ground.phase }, { on := 15, ground := Go.Ground.phase }, { on := 16, ground := Go.Ground.phase }, { on := 17, ground := Go.Ground.phase }, { on := 18, ground := Go.Ground.phase }, { on := 19, ground := Go.Ground.phase }, { on := 20, ground := Go.Ground.phase }, { on := 21, ground := Go.Ground.phase }, { on := 22, ground := Go.Ground.phase }, { on := 23, ground := Go.Ground.phase }, { on := 24, ground := Go.Ground.phase }, { on := 25, ground := Go.Ground.phase }, { on := 26, ground := Go.Ground.phase }, { on := 27, ground := Go.Ground.phase }, { on := 28, ground := Go.Ground.phase }, { on := 29, ground := Go.Ground.phase }, { on := 30, ground := Go.Ground.phase }, { on := 31, ground := Go.Ground.phase }, { on := 32, ground := Go.Ground.phase }, { on := 33, ground := Go.Ground.phase }, { on := 34, ground := Go.Ground.phase }, { on := 35, ground := Go.Ground.phase }, { on := 36, ground := Go.Ground.phase }, { on := 37, ground := Go.Ground.phase }, { on := 38, ground := Go.Ground.phase }, { on := 39, ground := Go.Ground.phase }, { on := 40, ground := Go.Ground.phase }, { on := 41, ground := Go.Ground.phase }, { on := 42, ground := Go.Ground.phase }, { on := 43, ground := Go.Ground.phase }, { on := 44, ground := Go.Ground.phase }, { on := 45, ground := Go.Ground.phase }], guard := none }) (v := .bool true) rfl (by kernel_rfl) (by kernel_rfl) (by kernel_rfl) (fun _ _ _ h => h) (Or.inl ⟨by rfl, fun w hSw => by (try dsimp only at hSw); go_simp⟩) hS1 ?_
              simp only [Act.put, List.setIfInBounds_toArray, List.set_cons_zero, List.set_cons_succ]
              refine wpAnyH_done (by kernel_rfl) ?_ _
              clear hS1
              go_wp2
              all_goals (go_ret; exact ⟨rfl, ds.bel⟩)
          · rw [decide_eq_false e1] at c26
            have HF3 : Hid _ := HF2
            have hle2 : Hid _ := hle
            clear hstp HF2 HF e1 hle
            go_wp2_with (go_at_call 26; refine c26.mono ?_; rintro e w14 ⟨rfl, flw, ch⟩)
            obtain ⟨i1, hd⟩ := kp.out _ ch
            clear kp
            go_roundw
            case rel => exact ⟨n + 1, _, _, _, by go_num, by have := hle2.out; have := hnl.out; unfold Hid; omega, by omega, HF3, flw, hd, i1⟩
            case measure => have := hnl.out; simp [intOf]; omega
      · rw [decide_eq_false hje] at c20
        go_wp2_with (go_at_call 20; refine c20.mono ?_; rintro e w8 ⟨rfl, al, ch⟩)
        obtain ⟨fr, hd⟩ := kp.out _ ch
        clear kp
        go_roundw
        case rel => exact ⟨j + 1, _, _, _, by omega, by go_num, by omega, HA2, al, fr, hd⟩
        case measure => simp [intOf]; omega
end Go.Proofs.YtjbjijkkmlehgaaDoor
