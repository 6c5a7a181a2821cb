/- The law of handles that are not found, walked. -/
import Derived.Test.YtnegdabcjnhpdabRFull
import Derived.Laws.BitsAllLaws
namespace Go.Proofs.Ytnegdabcjnhpdab
open Go.RowKit
open Mm (Only wordsOf)

/-- A number that is found is the handle of its entry. -/
theorem fd_is {t : Tb} {x : Nat} (h : fdOk t x = true) : ∃ i : Nat, i < t.A.length ∧ (t.A.getD i (0, 0)).2 ≠ -1 ∧ x = Tg.hW t.who (i : Int) (t.A.getD i (0, 0)).1 ∧ fdI t x = (i : Int) ∧ fdS t x = (t.A.getD i (0, 0)).2 := by
  have hI : fdI t x = Tg.pE x := by unfold fdI; rw [h]; rfl
  have hS : fdS t x = (t.A.getD (Tg.pE x).toNat (0, 0)).2 := by unfold fdS; rw [h]; rfl
  unfold fdOk at h
  simp only [Bool.and_eq_true, decide_eq_true_eq] at h
  obtain ⟨⟨⟨⟨h1, h2⟩, h3⟩, h4⟩, h5⟩ := h
  have hE := be_iff.1 h2
  have e1 : Tg.pC x = ((x / 72057594037927936 : Nat) : Int) - 1 := by unfold Tg.pC; rw [h1]; rfl
  have e2 : Tg.pE x = ((x / 281474976710656 % 256 : Nat) : Int) := by unfold Tg.pE; rw [h1]; rfl
  have e3 : Tg.pT x = x % 4294967296 := by unfold Tg.pT; rw [h1]; rfl
  obtain ⟨_, hb⟩ := (Tg.pOk_back x).1 h1
  rw [← e1, ← e2, ← e3, h3, ← h4] at hb
  refine ⟨(Tg.pE x).toNat, by omega, h5, ?_, by omega, hS⟩
  rw [show (((Tg.pE x).toNat : Nat) : Int) = Tg.pE x by omega]
  exact hb.symm
theorem fd_of {t : Tb} {i : Nat} (ht : t.Ok) (hi : i < t.A.length) (h1 : 1 ≤ (t.A.getD i (0, 0)).1) (h2 : (t.A.getD i (0, 0)).2 ≠ -1) : fdOk t (Tg.hW t.who (i : Int) (t.A.getD i (0, 0)).1) = true ∧ fdI t (Tg.hW t.who (i : Int) (t.A.getD i (0, 0)).1) = (i : Int) ∧ fdS t (Tg.hW t.who (i : Int) (t.A.getD i (0, 0)).1) = (t.A.getD i (0, 0)).2 := by
  have hd := ht.d16
  have hw := ht.w8
  have he := (ht.at hi).t
  have hk : Tg.hOk t.who (i : Int) (t.A.getD i (0, 0)).1 = true := Tg.hOk_iff.2 (by omega)
  have hv := Tg.hW_yes hk
  generalize Tg.hW t.who (i : Int) (t.A.getD i (0, 0)).1 = x at *
  have hp : Tg.pOk x = true := Tg.pOk_iff.2 (by omega)
  have e1 : Tg.pC x = t.who := by unfold Tg.pC; rw [hp, if_pos rfl]; omega
  have e2 : Tg.pE x = (i : Int) := by unfold Tg.pE; rw [hp, if_pos rfl]; omega
  have e3 : Tg.pT x = (t.A.getD i (0, 0)).1 := by unfold Tg.pT; rw [hp, if_pos rfl]; omega
  have hf : fdOk t x = true := by
    unfold fdOk
    rw [hp, e1, e2, e3, be_iff.2 (by omega)]
    simp only [Int.toNat_natCast]
    simp only [decide_true, Bool.true_and, decide_eq_true_eq]
    exact h2
  refine ⟨hf, ?_, ?_⟩
  · unfold fdI; rw [hf]; exact e2
  · unfold fdS; rw [hf, e2]; rfl

/-- What is known of the world within a law over two tables. -/
structure Tw (w wr : World) (s a c d g k : Int) (P R Q U : Nat) (t u : Tb) : Prop where
  cfg : IsCfg wr w.heap.size s a c d g k
  ta : IsTab wr P R t
  tb : IsTab wr Q U u
  bel : Below w.heap.size w wr
  hR : w.heap.size < R
  hU : w.heap.size < U
  n1 : R ≠ Q
  n2 : R ≠ U
  n3 : U ≠ P
theorem Tw.below {w wr w' : World} {s a c d g k : Int} {P R Q U : Nat} {t u : Tb} (h : Tw w wr s a c d g k P R Q U t u) (b : Below wr.heap.size wr w') : Tw w w' s a c d g k P R Q U t u :=
  ⟨h.cfg.below b, h.ta.below b, h.tb.below b, h.bel.trans (b.mono h.bel.size), h.hR, h.hU, h.n1, h.n2, h.n3⟩
theorem Tw.chgA {w wr w' : World} {s a c d g k : Int} {P R Q U : Nat} {t t' u : Tb} (h : Tw w wr s a c d g k P R Q U t u) (x : Chg [R] wr w') (ht : IsTab w' P R t') : Tw w w' s a c d g k P R Q U t' u :=
  ⟨h.cfg.chg x (by have := h.hR; simp; omega), ht, h.tb.chg x (by have := h.n1; simp; omega) (by have := h.n2; simp; omega), x.below h.bel (by have := h.hR; simp; omega) (Nat.le_refl _), h.hR, h.hU, h.n1, h.n2, h.n3⟩
theorem Tw.chgB {w wr w' : World} {s a c d g k : Int} {P R Q U : Nat} {t u u' : Tb} (h : Tw w wr s a c d g k P R Q U t u) (x : Chg [U] wr w') (ht : IsTab w' Q U u') : Tw w w' s a c d g k P R Q U t u' :=
  ⟨h.cfg.chg x (by have := h.hU; simp; omega), h.ta.chg x (by have := h.n3; simp; omega) (by have := h.n2; simp; omega), ht, x.below h.bel (by have := h.hU; simp; omega) (Nat.le_refl _), h.hR, h.hU, h.n1, h.n2, h.n3⟩

theorem cfg_set2 {w : World} {B : Nat} {s a c d g k : Int} (h : IsCfg w B s a c d g k) (v : Int) : IsCfg (w.setCell ⟨B, 2, none⟩ (.int .i64 v)) B s a v d g k := Mm.heap_setCell_at h _

theorem newTable_0 {s a c d g k who : Int} (n : Nat) (hr : rightB s a c d g k = true) (hw : be who c = true) (hn : d = (n : Int)) (w : World) :
    Calls Try.prog 8 #[.agg #[.int .i64 s, .int .i64 a, .int .i64 c, .int .i64 d, .int .i64 g, .int .i64 k], .int .i64 who, .int .u64 0] w fun e w' => ∃ P R, e = .returned (.pointer (some ⟨P, 0, none⟩)) ∧ IsTab w' P R ⟨s, a, c, d, g, k, who, List.replicate n (0, -1)⟩ ∧ w.heap.size ≤ P ∧ w.heap.size ≤ R ∧ Below w.heap.size w w' :=
  newTable_yes (who := who) 0 n (by omega) hr hw hn w
theorem xor_ne (h k : Nat) : h ^^^ 2 ^ k ≠ h := by
  intro e
  have : h ^^^ (h ^^^ 2 ^ k) = h ^^^ h := by rw [e]
  rw [← Nat.xor_assoc, Nat.xor_self, Nat.zero_xor] at this
  exact absurd this (Nat.ne_of_gt (Nat.two_pow_pos k))

/-- A table whose first entry alone has told a handle. -/
structure One (t : Tb) (who : Int) (S n : Nat) (x : En) : Prop where
  who : t.who = who
  s : t.s = (S : Int)
  len : t.A.length = n
  at0 : t.A.getD 0 (0, 0) = x
  more : ∀ j, 0 < j → j < n → (t.A.getD j (0, 0)).2 = -1
theorem One.fd {t : Tb} {who : Int} {S n : Nat} {x : En} (h : One t who S n x) {y : Nat} (hf : fdOk t y = true) : y = Tg.hW who 0 x.1 ∧ x.2 ≠ -1 := by
  obtain ⟨i, hi, h1, h2, _, _⟩ := fd_is hf
  by_cases h0 : i = 0
  · subst h0
    rw [h.at0] at h1 h2
    rw [h.who] at h2
    exact ⟨h2, h1⟩
  · exact absurd (h.more i (by omega) (by rw [← h.len]; exact hi)) h1
theorem One.find_no {w : World} {P R : Nat} {t : Tb} {who : Int} {S n : Nat} {x : En} (h : One t who S n x) (ht : IsTab w P R t) {y : Nat} (hy : y < 18446744073709551616) (hn : y ≠ Tg.hW who 0 x.1 ∨ x.2 = -1) {yi : Int} (hyi : ((y : Nat) : Int) = yi) :
    Calls Try.prog 13 #[.pointer (some ⟨P, 0, none⟩), .int .u64 yi] w fun e w' => e = .returned (.tuple #[.int .i64 0, .int .i64 0, .bool false]) ∧ Below w.heap.size w w' := by
  subst hyi
  have c := find_any ht y hy
  have e : fdOk t y = false := by
    cases e : fdOk t y
    · rfl
    · have := h.fd e; rcases hn with h1 | h1 <;> simp_all
  rw [(fd_no e).1, (fd_no e).2, e] at c
  exact c
theorem One.find_yes {w : World} {P R : Nat} {t : Tb} {who : Int} {S n : Nat} {x : En} (h : One t who S n x) (ht : IsTab w P R t) (h1 : 1 ≤ x.1) (h2 : x.2 ≠ -1) {y : Nat} (hy : Tg.hW who 0 x.1 = y) (hl : y < 18446744073709551616) {yi : Int} (hyi : ((y : Nat) : Int) = yi) :
    Calls Try.prog 13 #[.pointer (some ⟨P, 0, none⟩), .int .u64 yi] w fun e w' => e = .returned (.tuple #[.int .i64 0, .int .i64 x.2, .bool true]) ∧ Below w.heap.size w w' := by
  subst hyi
  have c := find_any ht y hl
  have hd := ht.ok.d16
  obtain ⟨e1, e2, e3⟩ := fd_of (i := 0) ht.ok (by omega) (by rw [h.at0]; exact h1) (by rw [h.at0]; exact h2)
  rw [h.at0, h.who] at e1 e2 e3
  have q : Tg.hW who ((0 : Nat) : Int) x.1 = y := hy
  rw [q] at e1 e2 e3
  rw [e1, e2, e3] at c
  exact c
theorem One.take {w : World} {P R : Nat} {t : Tb} {who : Int} {S n : Nat} {tg : Nat} (h : One t who S n (tg, -1)) (ht : IsTab w P R t) (htg : tg < 4294967295) (sl : Nat) (hsl : sl < S) {y : Nat} (hy : Tg.hW who 0 (tg + 1) = y) :
    Calls Try.prog 10 #[.pointer (some ⟨P, 0, none⟩), .int .i64 (sl : Nat)] w fun e w' => e = .returned (.tuple #[.int .i64 0, .int .u64 (y : Nat), .bool true]) ∧ (IsTab w' P R (t.put 0 (tg + 1, (sl : Int))) ∧ One (t.put 0 (tg + 1, (sl : Int))) who S n (tg + 1, (sl : Int))) ∧ Chg [R] w w' := by
  have hd := ht.ok.d16
  have hf : ff t.A = some 0 := ff_is (by omega) (by rw [h.at0]; simp [frE, htg]) (fun j hj => by omega)
  have c := take_yes ht sl (by rw [h.s]; omega) hf (tg := tg) (by rw [h.at0])
  rw [h.who] at c
  have q : Tg.hW who ((0 : Nat) : Int) (tg + 1) = y := hy
  rw [q] at c
  refine c.mono fun e w' ⟨he, h1, h2⟩ => ⟨he, ⟨h1, ⟨h.who, h.s, by simp [Tb.put, h.len], ?_, ?_⟩⟩, h2⟩
  · rw [getD_put, if_pos ⟨rfl, by omega⟩]
  · intro j h3 h4
    rw [getD_put, if_neg (by omega)]
    exact h.more j h3 h4
theorem One.drop {w : World} {P R : Nat} {t : Tb} {who : Int} {S n : Nat} {x : En} (h : One t who S n x) (ht : IsTab w P R t) (h2 : x.2 ≠ -1) :
    Calls Try.prog 11 #[.pointer (some ⟨P, 0, none⟩), .int .i64 0] w fun e w' => e = .returned (.bool true) ∧ (IsTab w' P R (t.put 0 (x.1, -1)) ∧ One (t.put 0 (x.1, -1)) who S n (x.1, -1)) ∧ Chg [R] w w' := by
  have hd := ht.ok.d16
  have c := drop_in ht 0 (by omega) h.at0
  rw [decide_eq_true h2] at c
  refine c.mono fun e w' ⟨he, h1, h2⟩ => ⟨he, ⟨h1, ⟨h.who, h.s, by simp [Tb.put, h.len], ?_, ?_⟩⟩, h2⟩
  · rw [getD_put, if_pos ⟨rfl, by omega⟩]
  · intro j h3 h4
    rw [getD_put, if_neg (by omega)]
    exact h.more j h3 h4

theorem turned_bits (bt : Nat) (hb : bt < 64) : ((72057594037927937 ^^^ 2 ^ bt : Nat) : Int) = bits BinOp.xor IntKind.u64 72057594037927937 (IntKind.u64.wrap (2 ^ bt)) ∧ 72057594037927937 ^^^ 2 ^ bt < 18446744073709551616 := by
  have h1 : 2 ^ bt < 2 ^ 64 := Nat.pow_lt_pow_right (by omega) hb
  have h2 : ((2 ^ bt : Nat) : Int) = (2 : Int) ^ bt := by norm_cast
  have e : IntKind.u64.wrap ((2 : Int) ^ bt) = ((2 ^ bt : Nat) : Int) := by
    rw [← h2, IntKind.wrap_u64]
    generalize 2 ^ bt = X at h1
    omega
  rw [e]
  exact ⟨(u64_xor_nat 72057594037927937 (2 ^ bt) (by omega) (by omega)).symm, Nat.xor_lt_two_pow (n := 64) (by omega) (by omega)⟩

set_option maxHeartbeats 4000000 in
set_option maxRecDepth 100000 in
theorem apart_law (s a c d g k : Int) (slot bit : Int) (w : World) :
    Calls Try.prog 4 #[.agg (cs s a c d g k), .int .i64 slot, .int .i64 bit] w fun r w' => r = .returned (.bool true) ∧ Below w.heap.size w w' := by
  have cf := Fit_any s a c d g k
  have bel := alloc_below w (.cells #[.int .i64 s, .int .i64 a, .int .i64 c, .int .i64 d, .int .i64 g, .int .i64 k] 23)
  have hh := cfg_new w s a c d g k
  go_enter Try.func4, Try.ntmps4
  go_upto_region 1 with fail
  generalize w.alloc (.cells #[.int .i64 s, .int .i64 a, .int .i64 c, .int .i64 d, .int .i64 g, .int .i64 k] 23) = w1 at *
  obtain ⟨l0, l1, l2, l3, l4, l5⟩ := hh.cells
  go_upto_region 2 with (go_at_call 7; refine (cf _).mono ?_; rintro r w2 ⟨⟨s', a', c', d', g', k', rfl, hs1, ha1, hc1, hd1, hg1, hk1⟩, b⟩; replace bel := seq_below bel b; replace hh := hh.below b; obtain ⟨l0, l1, l2, l3, l4, l5⟩ := hh.cells; have y0 := hh.free 0; have y1 := hh.free 1; have y2 := hh.free 2; have y3 := hh.free 3; have y4 := hh.free 4; have y5 := hh.free 5)
  have h3 := cfg_stored6 hh s' a' c' d' g' k'
  have bel3 := below_stored6 bel (Nat.le_refl w.heap.size) (.int .i64 s') (.int .i64 a') (.int .i64 c') (.int .i64 d') (.int .i64 g') (.int .i64 k')
  clear l0 l1 l2 l3 l4 l5 y0 y1 y2 y3 y4 y5 hh cf bel
  generalize ((((((w2.setCell ⟨w.heap.size, 0, none⟩ (.int .i64 s')).setCell ⟨w.heap.size, 1, none⟩ (.int .i64 a')).setCell ⟨w.heap.size, 2, none⟩ (.int .i64 c')).setCell ⟨w.heap.size, 3, none⟩ (.int .i64 d')).setCell ⟨w.heap.size, 4, none⟩ (.int .i64 g')).setCell ⟨w.heap.size, 5, none⟩ (.int .i64 k')) = w3 at *
  have y2 := h3.free 2
  obtain ⟨l0, l1, l2, l3, l4, l5⟩ := h3.cells
  have h4 := cfg_set2 h3 2
  have bel4 := bel3.setCell (p := ⟨w.heap.size, 2, none⟩) (Nat.le_refl w.heap.size) (.int .i64 2)
  go_upto_region 3 with fail
  clear h3 bel3 y2 l0 l1 l2 l3 l4 l5
  generalize w3.setCell ⟨w.heap.size, 2, none⟩ (.int .i64 2) = w4 at *
  have hr : rightB s' a' 2 d' g' k' = true := rightB_iff.2 (by omega)
  obtain ⟨n, rfl⟩ : ∃ n : Nat, d' = (n : Int) := ⟨d'.toNat, by omega⟩
  obtain ⟨S, rfl⟩ : ∃ S : Nat, s' = (S : Int) := ⟨s'.toNat, by omega⟩
  have hn : 1 ≤ n ∧ n ≤ 4 := by omega
  have hS : 1 ≤ S ∧ S ≤ 12 := by omega
  have c8a := fun wr => newTable_0 (w := wr) (who := 0) n hr (be_iff.2 (by omega)) rfl
  have c8b := fun wr => newTable_0 (w := wr) (who := 1) n hr (be_iff.2 (by omega)) rfl
  clear b hs1 ha1 hc1 hd1 hg1 hk1 hr
  replace h4 := h4.below (Below.refl _ _).drew
  replace bel4 := seq_below bel4 (Below.refl _ _).drew
  have hlt4 := h4.lt
  obtain ⟨l0, l1, l2, l3, l4, l5⟩ := h4.cells
  go_region_held (fun wr => wr.cell? ⟨w.heap.size, 0, none⟩ = some (.int .i64 (S : Int)) ∧ wr.cell? ⟨w.heap.size, 1, none⟩ = some (.int .i64 a') ∧ wr.cell? ⟨w.heap.size, 2, none⟩ = some (.int .i64 2) ∧ wr.cell? ⟨w.heap.size, 3, none⟩ = some (.int .i64 (n : Int)) ∧ wr.cell? ⟨w.heap.size, 4, none⟩ = some (.int .i64 g') ∧ wr.cell? ⟨w.heap.size, 5, none⟩ = some (.int .i64 k')) (exact h4.cells) (first
    | (go_at_call 8; with_reducible refine (c8a _).mono ?_; rintro r w5 ⟨P, R, rfl, ta, hP, hR, b⟩; have hx := h4.lt; replace h4 := h4.below b; replace bel4 := seq_below bel4 b; (try (have q1 := tb.P_lt; have q2 := tb.R_lt; replace tb := tb.below b)); clear b)
    | (go_at_call 8; with_reducible refine (c8b _).mono ?_; rintro r w5 ⟨Q, U, rfl, tb, hQ, hU, b⟩; have hy := h4.lt; replace h4 := h4.below b; replace bel4 := seq_below bel4 b; (try (have q1 := ta.P_lt; have q2 := ta.R_lt; replace ta := ta.below b)); clear b))
  have tw : Tw w w5 S a' 2 n g' k' P R Q U _ _ := ⟨h4, ta, tb, bel4, by omega, by omega, by omega, by omega, by omega⟩
  have oa : One ⟨S, a', 2, n, g', k', 0, List.replicate n (0, -1)⟩ 0 S n (0, -1) := ⟨rfl, rfl, by simp, getD_rep n _ 0 (by omega), fun j _ hj => by show ((List.replicate n ((0, -1) : En)).getD j (0, 0)).2 = -1; rw [getD_rep n _ j hj]⟩
  have ob : One ⟨S, a', 2, n, g', k', 1, List.replicate n (0, -1)⟩ 1 S n (0, -1) := ⟨rfl, rfl, by simp, getD_rep n _ 0 (by omega), fun j _ hj => by show ((List.replicate n ((0, -1) : En)).getD j (0, 0)).2 = -1; rw [getD_rep n _ j hj]⟩
  clear h4 ta tb bel4 hP hR hx hy q1 q2 hQ hU hlt4 l0 l1 l2 l3 l4 l5 c8a c8b
  rename_i hHeld
  clear hHeld
  have l0 := tw.cfg.cells.1
  have hu0 : 0 ≤ IntKind.u64.wrap slot := by rw [IntKind.wrap_u64]; omega
  have hKS : IntKind.u64.wrap (S : Int) = (S : Int) := by rw [IntKind.wrap_u64]; omega
  have hne : (S : Int) ≠ 0 := by omega
  obtain ⟨sl, hsl, hslS⟩ : ∃ kx : Nat, (IntKind.u64.wrap slot).tmod (S : Int) = (kx : Int) ∧ kx < S := by
    rw [Int.tmod_eq_emod_of_nonneg hu0]
    have q1 := Int.emod_nonneg (IntKind.u64.wrap slot) hne
    have q2 := Int.emod_lt_of_pos (IntKind.u64.wrap slot) (show (0 : Int) < S by omega)
    exact ⟨((IntKind.u64.wrap slot) % (S : Int)).toNat, by omega, by omega⟩
  go_upto_region 7 with fail
  clear hu0 hKS hsl l0
  have hu0 : 0 ≤ IntKind.u64.wrap bit := by rw [IntKind.wrap_u64]; omega
  obtain ⟨bt, hbt, hb64⟩ : ∃ kx : Nat, (IntKind.u64.wrap bit).tmod 64 = (kx : Int) ∧ kx < 64 := by
    rw [Int.tmod_eq_emod_of_nonneg hu0]
    exact ⟨((IntKind.u64.wrap bit) % 64).toNat, by omega, by omega⟩
  have q1 := oa.take tw.ta (by omega) sl hslS (y := 72057594037927937) (by decide)
  go_upto_region 8 with (go_at_call 10; with_reducible refine q1.mono ?_; rintro r w6 ⟨rfl, ⟨ht, oa1⟩, ch⟩; replace tw := tw.chgA ch ht)
  clear q1 ch ht oa
  have q2 := ob.take tw.tb (by omega) sl hslS (y := 144115188075855873) (by decide)
  go_upto_region 9 with (go_at_call 10; with_reducible refine q2.mono ?_; rintro r w7 ⟨rfl, ⟨ht, ob1⟩, ch⟩; replace tw := tw.chgB ch ht)
  clear q2 ch ht ob
  have q3 := oa1.find_yes tw.ta (by show 1 ≤ 0 + 1; omega) (by show (sl : Int) ≠ -1; omega) (y := 72057594037927937) (by show Tg.hW 0 0 (0 + 1) = _; decide) (by omega) (yi := 72057594037927937) rfl
  go_upto_region 10 with (go_at_call 13; with_reducible refine q3.mono ?_; rintro r w8 ⟨rfl, b⟩; replace tw := tw.below b)
  clear q3 b
  obtain ⟨yt, hy1, hy2⟩ : ∃ y : Nat, ((y : Nat) : Int) = bits BinOp.xor IntKind.u64 72057594037927937 (IntKind.u64.wrap (2 ^ bt)) ∧ y < 18446744073709551616 ∧ y ≠ 72057594037927937 := ⟨_, (turned_bits bt hb64).1, (turned_bits bt hb64).2, xor_ne _ _⟩
  have hsn : ((0 + 1, (sl : Int)) : En).2 ≠ -1 := by show (sl : Int) ≠ -1; omega
  have q4 := oa1.find_no tw.ta hy2.1 (.inl (by rw [show Tg.hW 0 0 ((0 + 1, (sl : Int)) : En).1 = 72057594037927937 from rfl]; exact hy2.2)) hy1
  have HY : Hid (((yt : Nat) : Int) = bits BinOp.xor IntKind.u64 72057594037927937 (IntKind.u64.wrap (2 ^ bt))) := hy1
  clear hy1
  go_upto_region 11 with (go_at_call 13; with_reducible refine q4.mono ?_; rintro r w8 ⟨rfl, b⟩; replace tw := tw.below b)
  clear q4 b hbt hu0 HY
  have q5 := oa1.find_no tw.ta (y := 144115188075855873) (by omega) (.inl (by rw [show Tg.hW 0 0 ((0 + 1, (sl : Int)) : En).1 = 72057594037927937 from rfl]; omega)) (yi := 144115188075855873) rfl
  go_upto_region 12 with (go_at_call 13; with_reducible refine q5.mono ?_; rintro r w9 ⟨rfl, b⟩; replace tw := tw.below b)
  clear q5 b
  have q6 := ob1.find_no tw.tb (y := 72057594037927937) (by omega) (.inl (by rw [show Tg.hW 1 0 ((0 + 1, (sl : Int)) : En).1 = 144115188075855873 from rfl]; omega)) (yi := 72057594037927937) rfl
  go_upto_region 13 with (go_at_call 13; with_reducible refine q6.mono ?_; rintro r w10 ⟨rfl, b⟩; replace tw := tw.below b)
  clear q6 b
  have q7 := oa1.drop tw.ta hsn
  go_upto_region 15 with (go_at_call 11; with_reducible refine q7.mono ?_; rintro r w11 ⟨rfl, ⟨ht, oa2⟩, ch⟩; replace tw := tw.chgA ch ht)
  clear q7 ch ht oa1
  have q8 := oa2.find_no tw.ta (y := 72057594037927937) (by omega) (.inr rfl) (yi := 72057594037927937) rfl
  go_upto_region 16 with (go_at_call 13; with_reducible refine q8.mono ?_; rintro r w12 ⟨rfl, b⟩; replace tw := tw.below b)
  clear q8 b
  have q9 := oa2.take tw.ta (by show 0 + 1 < 4294967295; omega) sl hslS (y := 72057594037927938) (by show Tg.hW 0 0 (0 + 1 + 1) = _; decide)
  go_upto_region 17 with (go_at_call 10; with_reducible refine q9.mono ?_; rintro r w13 ⟨rfl, ⟨ht, oa3⟩, ch⟩; replace tw := tw.chgA ch ht)
  clear q9 ch ht oa2
  have q10 := oa3.find_no tw.ta (y := 72057594037927937) (by omega) (.inl (by rw [show Tg.hW 0 0 ((0 + 1 + 1, (sl : Int)) : En).1 = 72057594037927938 from rfl]; omega)) (yi := 72057594037927937) rfl
  go_upto_region 18 with (go_at_call 13; with_reducible refine q10.mono ?_; rintro r w14 ⟨rfl, b⟩; replace tw := tw.below b)
  clear q10 b oa3
  have q11 := awake_any
  go_wp2_with (go_at_call 9; refine (q11 _).mono ?_; rintro r w15 ⟨rfl, b⟩; replace tw := tw.below b)
  go_ret
  exact ⟨rfl, tw.bel⟩
end Go.Proofs.Ytnegdabcjnhpdab
