/- The law of handles that are not found, walked. -/
import Derived.Test.YtnegdabcjnhpdaaRFull
import Derived.Laws.BitsAllLaws
namespace Go.Proofs.Ytnegdabcjnhpdaa
open Go.RowKit
open Mm (Only wordsOf)

/-- A number that is found is the handle of its entry. -/
theorem fd_is {t : Tb} {x : Nat} (h : fdOk t x = true) : ∃ i : Nat, i < t.A.length ∧ (t.A.getD i (0, 0)).2 ≠ -1 ∧ x = Tg.hW t.who (i : Int) (t.A.getD i (0, 0)).1 ∧ fdI t x = (i : Int) ∧ fdS t x = (t.A.getD i (0, 0)).2 := by
  have hI : fdI t x = Tg.pE x := by unfold fdI; rw [h]; rfl
  have hS : fdS t x = (t.A.getD (Tg.pE x).toNat (0, 0)).2 := by unfold fdS; rw [h]; rfl
  unfold fdOk at h
  simp only [Bool.and_eq_true, decide_eq_true_eq] at h
  obtain ⟨⟨⟨⟨h1, h2⟩, h3⟩, h4⟩, h5⟩ := h
  have hE := be_iff.1 h2
  have e1 : Tg.pC x = ((x / 72057594037927936 : Nat) : Int) - 1 := by unfold Tg.pC; rw [h1]; rfl
  have e2 : Tg.pE x = ((x / 281474976710656 % 256 : Nat) : Int) := by unfold Tg.pE; rw [h1]; rfl
  have e3 : Tg.pT x = x % 4294967296 := by unfold Tg.pT; rw [h1]; rfl
  obtain ⟨_, hb⟩ := (Tg.pOk_back x).1 h1
  rw [← e1, ← e2, ← e3, h3, ← h4] at hb
  refine ⟨(Tg.pE x).toNat, by omega, h5, ?_, by omega, hS⟩
  rw [show (((Tg.pE x).toNat : Nat) : Int) = Tg.pE x by omega]
  exact hb.symm
theorem fd_of {t : Tb} {i : Nat} (ht : t.Ok) (hi : i < t.A.length) (h1 : 1 ≤ (t.A.getD i (0, 0)).1) (h2 : (t.A.getD i (0, 0)).2 ≠ -1) : fdOk t (Tg.hW t.who (i : Int) (t.A.getD i (0, 0)).1) = true ∧ fdI t (Tg.hW t.who (i : Int) (t.A.getD i (0, 0)).1) = (i : Int) ∧ fdS t (Tg.hW t.who (i : Int) (t.A.getD i (0, 0)).1) = (t.A.getD i (0, 0)).2 := by
  have hd := ht.d16
  have hw := ht.w8
  have he := (ht.at hi).t
  have hk : Tg.hOk t.who (i : Int) (t.A.getD i (0, 0)).1 = true := Tg.hOk_iff.2 (by omega)
  have hv := Tg.hW_yes hk
  generalize Tg.hW t.who (i : Int) (t.A.getD i (0, 0)).1 = x at *
  have hp : Tg.pOk x = true := Tg.pOk_iff.2 (by omega)
  have e1 : Tg.pC x = t.who := by unfold Tg.pC; rw [hp, if_pos rfl]; omega
  have e2 : Tg.pE x = (i : Int) := by unfold Tg.pE; rw [hp, if_pos rfl]; omega
  have e3 : Tg.pT x = (t.A.getD i (0, 0)).1 := by unfold Tg.pT; rw [hp, if_pos rfl]; omega
  have hf : fdOk t x = true := by
    unfold fdOk
    rw [hp, e1, e2, e3, be_iff.2 (by omega)]
    simp only [Int.toNat_natCast]
    simp only [decide_true, Bool.true_and, decide_eq_true_eq]
    exact h2
  refine ⟨hf, ?_, ?_⟩
  · unfold fdI; rw [hf]; exact e2
  · unfold fdS; rw [hf, e2]; rfl

/-- What is known of the world within a law over two tables. -/
structure Tw (w wr : World) (s a c d g k : Int) (P R Q U : Nat) (t u : Tb) : Prop where
  cfg : IsCfg wr w.heap.size s a c d g k
  ta : IsTab wr P R t
  tb : IsTab wr Q U u
  bel : Below w.heap.size w wr
  hR : w.heap.size < R
  hU : w.heap.size < U
  n1 : R ≠ Q
  n2 : R ≠ U
  n3 : U ≠ P
theorem Tw.below {w wr w' : World} {s a c d g k : Int} {P R Q U : Nat} {t u : Tb} (h : Tw w wr s a c d g k P R Q U t u) (b : Below wr.heap.size wr w') : Tw w w' s a c d g k P R Q U t u :=
  ⟨h.cfg.below b, h.ta.below b, h.tb.below b, h.bel.trans (b.mono h.bel.size), h.hR, h.hU, h.n1, h.n2, h.n3⟩
theorem Tw.chgA {w wr w' : World} {s a c d g k : Int} {P R Q U : Nat} {t t' u : Tb} (h : Tw w wr s a c d g k P R Q U t u) (x : Chg [R] wr w') (ht : IsTab w' P R t') : Tw w w' s a c d g k P R Q U t' u :=
  ⟨h.cfg.chg x (by have := h.hR; simp; omega), ht, h.tb.chg x (by have := h.n1; simp; omega) (by have := h.n2; simp; omega), x.below h.bel (by have := h.hR; simp; omega) (Nat.le_refl _), h.hR, h.hU, h.n1, h.n2, h.n3⟩
theorem Tw.chgB {w wr w' : World} {s a c d g k : Int} {P R Q U : Nat} {t u u' : Tb} (h : Tw w wr s a c d g k P R Q U t u) (x : Chg [U] wr w') (ht : IsTab w' Q U u') : Tw w w' s a c d g k P R Q U t u' :=
  ⟨h.cfg.chg x (by have := h.hU; simp; omega), h.ta.chg x (by have := h.n3; simp; omega) (by have := h.n2; simp; omega), ht, x.below h.bel (by have := h.hU; simp; omega) (Nat.le_refl _), h.hR, h.hU, h.n1, h.n2, h.n3⟩

theorem cfg_set2 {w : World} {B : Nat} {s a c d g k : Int} (h : IsCfg w B s a c d g k) (v : Int) : IsCfg (w.setCell ⟨B, 2, none⟩ (.int .i64 v)) B s a v d g k := Mm.heap_setCell_at h _

theorem newTable_0 {s a c d g k who : Int} (n : Nat) (hr : rightB s a c d g k = true) (hw : be who c = true) (hn : d = (n : Int)) (w : World) :
    Calls Try.prog 5 #[.agg #[.int .i64 s, .int .i64 a, .int .i64 c, .int .i64 d, .int .i64 g, .int .i64 k], .int .i64 who, .int .u64 0] w fun e w' => ∃ P R, e = .returned (.pointer (some ⟨P, 0, none⟩)) ∧ IsTab w' P R ⟨s, a, c, d, g, k, who, List.replicate n (0, -1)⟩ ∧ w.heap.size ≤ P ∧ w.heap.size ≤ R ∧ Below w.heap.size w w' :=
  newTable_yes (who := who) 0 n (by omega) hr hw hn w
theorem xor_ne (h k : Nat) : h ^^^ 2 ^ k ≠ h := by
  intro e
  have : h ^^^ (h ^^^ 2 ^ k) = h ^^^ h := by rw [e]
  rw [← Nat.xor_assoc, Nat.xor_self, Nat.zero_xor] at this
  exact absurd this (Nat.ne_of_gt (Nat.two_pow_pos k))

/-- A table whose first entry alone has told a handle. -/
structure One (t : Tb) (who : Int) (S n : Nat) (x : En) : Prop where
  who : t.who = who
  s : t.s = (S : Int)
  len : t.A.length = n
  at0 : t.A.getD 0 (0, 0) = x
  more : ∀ j, 0 < j → j < n → (t.A.getD j (0, 0)).2 = -1
theorem One.fd {t : Tb} {who : Int} {S n : Nat} {x : En} (h : One t who S n x) {y : Nat} (hf : fdOk t y = true) : y = Tg.hW who 0 x.1 ∧ x.2 ≠ -1 := by
  obtain ⟨i, hi, h1, h2, _, _⟩ := fd_is hf
  by_cases h0 : i = 0
  · subst h0
    rw [h.at0] at h1 h2
    rw [h.who] at h2
    exact ⟨h2, h1⟩
  · exact absurd (h.more i (by omega) (by rw [← h.len]; exact hi)) h1
theorem One.find_no {w : World} {P R : Nat} {t : Tb} {who : Int} {S n : Nat} {x : En} (h : One t who S n x) (ht : IsTab w P R t) {y : Nat} (hy : y < 18446744073709551616) (hn : y ≠ Tg.hW who 0 x.1 ∨ x.2 = -1) {yi : Int} (hyi : ((y : Nat) : Int) = yi) :
    Calls Try.prog 10 #[.pointer (some ⟨P, 0, none⟩), .int .u64 yi] w fun e w' => e = .returned (.tuple #[.int .i64 0, .int .i64 0, .bool false]) ∧ Below w.heap.size w w' := by
  subst hyi
  have c := find_any ht y hy
  have e : fdOk t y = false := by
    cases e : fdOk t y
    · rfl
    · have := h.fd e; rcases hn with h1 | h1 <;> simp_all
  rw [(fd_no e).1, (fd_no e).2, e] at c
  exact c
theorem One.find_yes {w : World} {P R : Nat} {t : Tb} {who : Int} {S n : Nat} {x : En} (h : One t who S n x) (ht : IsTab w P R t) (h1 : 1 ≤ x.1) (h2 : x.2 ≠ -1) {y : Nat} (hy : Tg.hW who 0 x.1 = y) (hl : y < 18446744073709551616) {yi : Int} (hyi : ((y : Nat) : Int) = yi) :
    Calls Try.prog 10 #[.pointer (some ⟨P, 0, none⟩), .int .u64 yi] w fun e w' => e = .returned (.tuple #[.int .i64 0, .int .i64 x.2, .bool true]) ∧ Below w.heap.size w w' := by
  subst hyi
  have c := find_any ht y hl
  have hd := ht.ok.d16
  obtain ⟨e1, e2, e3⟩ := fd_of (i := 0) ht.ok (by omega) (by rw [h.at0]; exact h1) (by rw [h.at0]; exact h2)
  rw [h.at0, h.who] at e1 e2 e3
  have q : Tg.hW who ((0 : Nat) : Int) x.1 = y := hy
  rw [q] at e1 e2 e3
  rw [e1, e2, e3] at c
  exact c
theorem One.take {w : World} {P R : Nat} {t : Tb} {who : Int} {S n : Nat} {tg : Nat} (h : One t who S n (tg, -1)) (ht : IsTab w P R t) (htg : tg < 4294967295) (sl : Nat) (hsl : sl < S) {y : Nat} (hy : Tg.hW who 0 (tg + 1) = y) :
    Calls Try.prog 7 #[.pointer (some ⟨P, 0, none⟩), .int .i64 (sl : Nat)] w fun e w' => e = .returned (.tuple #[.int .i64 0, .int .u64 (y : Nat), .bool true]) ∧ (IsTab w' P R (t.put 0 (tg + 1, (sl : Int))) ∧ One (t.put 0 (tg + 1, (sl : Int))) who S n (tg + 1, (sl : Int))) ∧ Chg [R] w w' := by
  have hd := ht.ok.d16
  have hf : ff t.A = some 0 := ff_is (by omega) (by rw [h.at0]; simp [frE, htg]) (fun j hj => by omega)
  have c := take_yes ht sl (by rw [h.s]; omega) hf (tg := tg) (by rw [h.at0])
  rw [h.who] at c
  have q : Tg.hW who ((0 : Nat) : Int) (tg + 1) = y := hy
  rw [q] at c
  refine c.mono fun e w' ⟨he, h1, h2⟩ => ⟨he, ⟨h1, ⟨h.who, h.s, by simp [Tb.put, h.len], ?_, ?_⟩⟩, h2⟩
  · rw [getD_put, if_pos ⟨rfl, by omega⟩]
  · intro j h3 h4
    rw [getD_put, if_neg (by omega)]
    exact h.more j h3 h4
theorem One.drop {w : World} {P R : Nat} {t : Tb} {who : Int} {S n : Nat} {x : En} (h : One t who S n x) (ht : IsTab w P R t) (h2 : x.2 ≠ -1) :
    Calls Try.prog 9 #[.pointer (some ⟨P, 0, none⟩), .int .i64 0] w fun e w' => e = .returned (.bool true) ∧ (IsTab w' P R (t.put 0 (x.1, -1)) ∧ One (t.put 0 (x.1, -1)) who S n (x.1, -1)) ∧ Chg [R] w w' := by
  have hd := ht.ok.d16
  have c := drop_in ht 0 (by omega) h.at0
  rw [decide_eq_true h2] at c
  refine c.mono fun e w' ⟨he, h1, h2⟩ => ⟨he, ⟨h1, ⟨h.who, h.s, by simp [Tb.put, h.len], ?_, ?_⟩⟩, h2⟩
  · rw [getD_put, if_pos ⟨rfl, by omega⟩]
  · intro j h3 h4
    rw [getD_put, if_neg (by omega)]
    exact h.more j h3 h4

theorem turned_bits (bt : Nat) (hb : bt < 64) : ((72057594037927937 ^^^ 2 ^ bt : Nat) : Int) = bits BinOp.xor IntKind.u64 72057594037927937 (IntKind.u64.wrap (2 ^ bt)) ∧ 72057594037927937 ^^^ 2 ^ bt < 18446744073709551616 := by
  have h1 : 2 ^ bt < 2 ^ 64 := Nat.pow_lt_pow_right (by omega) hb
  have h2 : ((2 ^ bt : Nat) : Int) = (2 : Int) ^ bt := by norm_cast
  have e : IntKind.u64.wrap ((2 : Int) ^ bt) = ((2 ^ bt : Nat) : Int) := by
    rw [← h2, IntKind.wrap_u64]
    generalize 2 ^ bt = X at h1
    omega
  rw [e]
  exact ⟨(u64_xor_nat 72057594037927937 (2 ^ bt) (by omega) (by omega)).symm, Nat.xor_lt_two_pow (n := 64) (by omega) (by omega)⟩

end Go.Proofs.Ytnegdabcjnhpdaa
