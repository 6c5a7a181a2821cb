/- One machine alone: its steps one behind the other. -/
import Derived.Test.YtcfallaekedmkaaSTop
namespace Go.Proofs.Ytcfallaekedmkaa
open Go.RowKit
open Mm (IsMem MS touched)
open Tg (movedW)

/-- A memory that has this free list. -/
def MemT (w : World) (M G : Nat) (K : Cf) (tag : Nat) (F : List Nat) (T : Int) : Prop := ∃ m, IsMem w M G m ∧ Top K m.X tag F ∧ 0 ≤ m.t ∧ m.t ≤ T

theorem MemT.below {w w' : World} {M G : Nat} {K : Cf} {tag : Nat} {F : List Nat} {T : Int} (h : MemT w M G K tag F T) (b : Below w.heap.size w w') : MemT w' M G K tag F T := by
  obtain ⟨m, h1, h2⟩ := h
  exact ⟨m, h1.below b, h2⟩
theorem MemT.chg {L : List Nat} {w w' : World} {M G : Nat} {K : Cf} {tag : Nat} {F : List Nat} {T : Int} (h : MemT w M G K tag F T) (b : Chg L w w') (h1 : M ∉ L) (h2 : G ∉ L) : MemT w' M G K tag F T := by
  obtain ⟨m, h3, h4⟩ := h
  exact ⟨m, IsMem.chg h3 b h1 h2, h4⟩
theorem MemT.lt {w : World} {M G : Nat} {K : Cf} {tag : Nat} {F : List Nat} {T : Int} (h : MemT w M G K tag F T) : M < w.heap.size ∧ G < w.heap.size ∧ M ≠ G := by
  obtain ⟨m, h1, _⟩ := h
  exact ⟨h1.M_lt, h1.G_lt, h1.ne⟩

theorem pop_1 {K : Cf} {m : MS} {p : PS} {tag s : Nat} {F : List Nat} (h : Top K m.X tag (s :: F)) (hp : p.pc = 0) :
    popStep K m p = (touched m 1 3 (m.X.getD 3 0), ⟨p.sl, p.em, 1, m.X.getD 3 0, p.nx⟩) := by
  have e := h.fst
  unfold popStep
  rw [if_pos hp, if_neg (by omega), if_neg (by omega)]
theorem pop_e {K : Cf} {m : MS} {p : PS} {tag : Nat} (h : Top K m.X tag []) (hp : p.pc = 0) :
    popStep K m p = (touched m 1 3 (m.X.getD 3 0), ⟨p.sl, true, 3, m.X.getD 3 0, p.nx⟩) := by
  have e := h.fst_nil
  unfold popStep
  rw [if_pos hp, if_pos e, if_pos e]
theorem pop_2 {K : Cf} {m : MS} {p : PS} {s : Nat} (hp : p.pc = 1) (hf : fst K.S p.tp = (s : Int)) :
    popStep K m p = (touched m 1 (K.lk s) (m.X.getD (K.lk s) 0), ⟨p.sl, p.em, 2, p.tp, nmd K.S (m.X.getD (K.lk s) 0)⟩) := by
  unfold popStep
  rw [if_neg (by omega), if_pos hp, hf]
  rfl
theorem pop_3 {K : Cf} {m : MS} {p : PS} (hp : p.pc = 2) (h : m.X.getD 3 0 = p.tp) :
    popStep K m p = (touched m 3 3 (movedW p.tp p.nx), ⟨fst K.S p.tp, p.em, 3, p.tp, p.nx⟩) := by
  unfold popStep
  rw [if_neg (by omega), if_neg (by omega), if_pos hp, if_pos h]
theorem pop_no {K : Cf} {m : MS} {p : PS} (hp : p.pc = 2) (h : m.X.getD 3 0 ≠ p.tp) :
    popStep K m p = (touched m 3 3 (m.X.getD 3 0), ⟨p.sl, p.em, 0, p.tp, p.nx⟩) := by
  unfold popStep
  rw [if_neg (by omega), if_neg (by omega), if_pos hp, if_neg h]

theorem pop_alone {K : Cf} (hK : K.Ok) {M G P : Nat} {w : World} {p : PS} {tag s : Nat} {F : List Nat} {T : Int} (hp : IsPopS w P K p) (hw : PWf K p) (h0 : p.pc = 0) (he : p.em = false) (h1 : P ≠ M) (h2 : P ≠ G) (hm : MemT w M G K tag (s :: F) T) (ht : tag + 1 < 281474976710656) (hT : T + 3 < 4611686018427387904) :
    Calls Try.prog 21 #[.pointer (some ⟨P, 0, none⟩), .pointer (some ⟨M, 0, none⟩)] w fun e w1 => e = .returned (.bool false) ∧
      Calls Try.prog 21 #[.pointer (some ⟨P, 0, none⟩), .pointer (some ⟨M, 0, none⟩)] w1 fun e w2 => e = .returned (.bool false) ∧
        Calls Try.prog 21 #[.pointer (some ⟨P, 0, none⟩), .pointer (some ⟨M, 0, none⟩)] w2 fun e w3 => e = .returned (.bool true) ∧
          (∃ p3, IsPopS w3 P K p3 ∧ p3.sl = (s : Int) ∧ p3.em = false ∧ p3.pc = 3) ∧ MemT w3 M G K (tag + 1) F (T + 3) ∧ Chg [P, M, G] w w3 := by
  obtain ⟨m, hm, tp, t0, t1⟩ := hm
  have e1 := pop_1 (p := p) tp h0
  have c1 := popStep_any hK hm hp h1 h2 tp.len (by omega) hw
  have w1f := popStep_wf (m := m) hw (fun i => hm.word_lt i)
  have hv := hm.word_lt 3
  rw [e1] at c1 w1f
  refine c1.mono fun e w1 ⟨he1, m1, p1, k1⟩ => ⟨he1, ?_⟩
  clear c1 e1
  have x1 : (touched m 1 3 (m.X.getD 3 0)).X = m.X := touched_X m 1 3
  have y1 : (touched m 1 3 (m.X.getD 3 0)).t = m.t + 1 := rfl
  generalize touched m 1 3 (m.X.getD 3 0) = ma at *
  replace m1 : IsMem w1 M G ma := m1
  have e2 := pop_2 (K := K) (m := ma) (p := ⟨p.sl, p.em, 1, m.X.getD 3 0, p.nx⟩) (s := s) rfl tp.fst
  have c2 := popStep_any hK m1 p1 h1 h2 (by rw [x1]; exact tp.len) (by omega) w1f
  have w2f := popStep_wf (m := ma) w1f (fun i => m1.word_lt i)
  rw [e2] at c2 w2f
  refine c2.mono fun e w2 ⟨he2, m2, p2, k2⟩ => ⟨he2, ?_⟩
  clear c2 e2
  have x2 : (touched ma 1 (K.lk s) (ma.X.getD (K.lk s) 0)).X = m.X := (touched_X ma 1 _).trans x1
  have y2 : (touched ma 1 (K.lk s) (ma.X.getD (K.lk s) 0)).t = ma.t + 1 := rfl
  rw [x1] at p2 w2f
  generalize touched ma 1 (K.lk s) (ma.X.getD (K.lk s) 0) = mb at *
  replace m2 : IsMem w2 M G mb := m2
  have e3 := pop_3 (K := K) (m := mb) (p := ⟨p.sl, p.em, 2, m.X.getD 3 0, nmd K.S (m.X.getD (K.lk s) 0)⟩) rfl (by rw [x2])
  have c3 := popStep_any hK m2 p2 h1 h2 (by rw [x2]; exact tp.len) (by omega) w2f
  rw [e3] at c3
  refine c3.mono fun e w3 ⟨he3, m3, p3, k3⟩ => ⟨he3, ⟨_, p3, tp.fst, he, rfl⟩, ⟨_, m3, ?_, ?_, ?_⟩, (k1.trans k2).trans k3⟩
  · show Top K (mb.X.set 3 _) _ _
    rw [x2]
    exact tp.popped hK ht
  · show 0 ≤ mb.t + 1
    omega
  · show mb.t + 1 ≤ _
    omega

theorem pop_empty {K : Cf} (hK : K.Ok) {M G P : Nat} {w : World} {p : PS} {tag : Nat} {T : Int} (hp : IsPopS w P K p) (hw : PWf K p) (h0 : p.pc = 0) (h1 : P ≠ M) (h2 : P ≠ G) (hm : MemT w M G K tag [] T) (hT : T + 3 < 4611686018427387904) :
    Calls Try.prog 21 #[.pointer (some ⟨P, 0, none⟩), .pointer (some ⟨M, 0, none⟩)] w fun e w1 => e = .returned (.bool true) ∧
      (∃ p3, IsPopS w1 P K p3 ∧ p3.sl = p.sl ∧ p3.em = true ∧ p3.pc = 3) ∧ MemT w1 M G K tag [] (T + 1) ∧ Chg [P, M, G] w w1 := by
  obtain ⟨m, hm, tp, t0, t1⟩ := hm
  have c1 := popStep_any hK hm hp h1 h2 tp.len (by omega) hw
  rw [pop_e (p := p) tp h0] at c1
  refine c1.mono fun e w1 ⟨he1, m1, p1, k1⟩ => ⟨he1, ⟨_, p1, rfl, rfl, rfl⟩, ⟨_, m1, ?_, ?_, ?_⟩, k1⟩
  · rw [touched_X]; exact tp
  · show 0 ≤ m.t + 1
    omega
  · show m.t + 1 ≤ _
    omega

/-- Behind its end a step does nothing. -/
theorem pop_done {K : Cf} {M P : Nat} {w : World} {p : PS} (hp : IsPopS w P K p) (h3 : p.pc = 3) :
    Calls Try.prog 21 #[.pointer (some ⟨P, 0, none⟩), .pointer (some ⟨M, 0, none⟩)] w fun e w1 => e = .returned (.bool true) ∧ w = w1 := by
  obtain ⟨sl, em, pc, tp, nx⟩ := p
  simp only at h3
  subst h3
  exact step_3 hp

theorem push_1 {K : Cf} {m : MS} {q : QS} (hq : q.pc = 0) : pushStep K m q = (touched m 1 3 (m.X.getD 3 0), ⟨q.sl, 1, m.X.getD 3 0⟩) := by
  unfold pushStep
  rw [if_pos hq]
theorem push_2 {K : Cf} {m : MS} {q : QS} (hq : q.pc = 1) : pushStep K m q = (touched m 2 (K.lk q.sl) (fst K.S q.tp + 1).toNat, ⟨q.sl, 2, q.tp⟩) := by
  unfold pushStep
  rw [if_neg (by omega), if_pos hq]
theorem push_3 {K : Cf} {m : MS} {q : QS} (hq : q.pc = 2) (h : m.X.getD 3 0 = q.tp) : pushStep K m q = (touched m 3 3 (movedW q.tp q.sl), ⟨q.sl, 3, q.tp⟩) := by
  unfold pushStep
  rw [if_neg (by omega), if_neg (by omega), if_pos hq, if_pos h]
theorem push_no {K : Cf} {m : MS} {q : QS} (hq : q.pc = 2) (h : m.X.getD 3 0 ≠ q.tp) : pushStep K m q = (touched m 3 3 (m.X.getD 3 0), ⟨q.sl, 0, q.tp⟩) := by
  unfold pushStep
  rw [if_neg (by omega), if_neg (by omega), if_pos hq, if_neg h]
theorem pushStep_wf {K : Cf} {m : MS} {q : QS} (h : QWf K q) (hX : ∀ i, m.X.getD i 0 < 18446744073709551616) : QWf K (pushStep K m q).2 ∧ (pushStep K m q).2.sl = q.sl := by
  unfold pushStep
  split
  · exact ⟨⟨by show 1 ≤ 3; omega, hX 3, h.sl⟩, rfl⟩
  split
  · exact ⟨⟨by show 2 ≤ 3; omega, h.tp, h.sl⟩, rfl⟩
  split
  · split
    · exact ⟨⟨by show 3 ≤ 3; omega, h.tp, h.sl⟩, rfl⟩
    · exact ⟨⟨by show 0 ≤ 3; omega, h.tp, h.sl⟩, rfl⟩
  · exact ⟨h, rfl⟩

theorem push_alone {K : Cf} (hK : K.Ok) {M G P : Nat} {w : World} {q : QS} {tag : Nat} {F : List Nat} {T : Int} (hp : IsPushS w P K q) (hw : QWf K q) (h0 : q.pc = 0) (h1 : P ≠ M) (h2 : P ≠ G) (hm : MemT w M G K tag F T) (hs : q.sl ∉ F) (ht : tag + 1 < 281474976710656) (hT : T + 3 < 4611686018427387904) :
    Calls Try.prog 24 #[.pointer (some ⟨P, 0, none⟩), .pointer (some ⟨M, 0, none⟩)] w fun e w1 => e = .returned (.bool false) ∧
      Calls Try.prog 24 #[.pointer (some ⟨P, 0, none⟩), .pointer (some ⟨M, 0, none⟩)] w1 fun e w2 => e = .returned (.bool false) ∧
        Calls Try.prog 24 #[.pointer (some ⟨P, 0, none⟩), .pointer (some ⟨M, 0, none⟩)] w2 fun e w3 => e = .returned (.bool true) ∧
          MemT w3 M G K (tag + 1) (q.sl :: F) (T + 3) ∧ Chg [P, M, G] w w3 := by
  obtain ⟨m, hm, tp, t0, t1⟩ := hm
  have hN := hK.N_b
  have c1 := pushStep_any hK hm hp h1 h2 tp.len (by omega) hw
  have w1f := (pushStep_wf (m := m) hw (fun i => hm.word_lt i)).1
  rw [push_1 h0] at c1 w1f
  refine c1.mono fun e w1 ⟨he1, m1, p1, k1⟩ => ⟨he1, ?_⟩
  clear c1
  have x1 : (touched m 1 3 (m.X.getD 3 0)).X = m.X := touched_X m 1 3
  have y1 : (touched m 1 3 (m.X.getD 3 0)).t = m.t + 1 := rfl
  generalize touched m 1 3 (m.X.getD 3 0) = ma at *
  replace m1 : IsMem w1 M G ma := m1
  have c2 := pushStep_any hK m1 p1 h1 h2 (by rw [x1]; exact tp.len) (by omega) w1f
  have w2f := (pushStep_wf (m := ma) w1f (fun i => m1.word_lt i)).1
  rw [push_2 rfl] at c2 w2f
  refine c2.mono fun e w2 ⟨he2, m2, p2, k2⟩ => ⟨he2, ?_⟩
  clear c2
  have x2 : (touched ma 2 (K.lk q.sl) (fst K.S (m.X.getD 3 0) + 1).toNat).X = m.X.set (K.lk q.sl) (fst K.S (m.X.getD 3 0) + 1).toNat := by
    show ma.X.set _ _ = _
    rw [x1]
  have y2 : (touched ma 2 (K.lk q.sl) (fst K.S (m.X.getD 3 0) + 1).toNat).t = ma.t + 1 := rfl
  generalize touched ma 2 (K.lk q.sl) (fst K.S (m.X.getD 3 0) + 1).toNat = mb at *
  replace m2 : IsMem w2 M G mb := m2
  have tp2 := tp.linked hs (fst K.S (m.X.getD 3 0) + 1).toNat
  have g3 : mb.X.getD 3 0 = m.X.getD 3 0 := by rw [x2, getD_set, if_neg (by have := K.lk_4 q.sl; omega)]
  have gl : mb.X.getD (K.lk q.sl) 0 = (fst K.S (mb.X.getD 3 0) + 1).toNat := by rw [g3, x2, getD_set, if_pos ⟨rfl, by rw [tp.len]; exact hK.lk_lt hw.sl⟩]
  rw [← x2] at tp2
  have c3 := pushStep_any hK m2 p2 h1 h2 tp2.len (by omega) w2f
  rw [push_3 rfl g3] at c3
  refine c3.mono fun e w3 ⟨he3, m3, p3, k3⟩ => ⟨he3, ⟨_, m3, ?_, ?_, ?_⟩, (k1.trans k2).trans k3⟩
  · show Top K (mb.X.set 3 (movedW (m.X.getD 3 0) _)) _ _
    rw [← g3]
    exact tp2.pushed hK hs hw.sl ht gl
  · show 0 ≤ mb.t + 1
    omega
  · show mb.t + 1 ≤ _
    omega
end Go.Proofs.Ytcfallaekedmkaa
