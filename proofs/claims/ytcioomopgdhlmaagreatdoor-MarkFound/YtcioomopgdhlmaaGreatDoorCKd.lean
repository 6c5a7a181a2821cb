/- mark's loadView, loadEntry, loadGrays, load. -/
import Derived.Test.YtcioomopgdhlmaaGreatDoorCKp
namespace Go.Proofs.YtcioomopgdhlmaaGreatDoor
open Go.RowKit
open Mm (IsMem MS touched Only IsWords)
open Hh (WT okW wordOf)

def lsV (l v : Nat) : Nat := if v = 0 then l else if v = 1 then 0 else min l (v - 2)
theorem KmAt.rdw {w wr : World} {M G N P : Nat} {X : List Nat} {T : Int} {c : Array Value} {t : TypeId} {o : Nat} {K : Cf} {s : Km} (h : KmAt c o K s) (is : InA w wr M G N X T P c t) :
    wr.cell? ⟨P, o + 2, none⟩ = some (.int .i64 (K.S : Nat)) ∧ wr.cell? ⟨P, o + 2 + 1, none⟩ = some (.int .i64 K.a) ∧ wr.cell? ⟨P, o + 2 + 2, none⟩ = some (.int .i64 (K.C : Nat)) ∧ wr.cell? ⟨P, o + 2 + 3, none⟩ = some (.int .i64 (K.D : Nat)) ∧ wr.cell? ⟨P, o + 2 + 4, none⟩ = some (.int .i64 K.g) ∧ wr.cell? ⟨P, o + 2 + 5, none⟩ = some (.int .i64 K.k) ∧ wr.cell? ⟨P, o + 10, none⟩ = some (.int .i64 (s.who : Nat)) ∧ wr.cell? ⟨P, o + 11, none⟩ = some (.int .i64 (s.en : Nat)) :=
  ⟨is.cell h.k0, is.cell h.k1, is.cell h.k2, is.cell h.k3, is.cell h.k4, is.cell h.k5, is.cell h.who, is.cell h.en⟩

/-- A load, within a step. -/
theorem ldA {w : World} {M G N P : Nat} {X : List Nat} {T : Int} {c : Array Value} {t : TypeId} {L v : Nat} (hL : L < N) (hv : X.getD L 0 = v) (hT : T + 1 < 4611686018427387904) (wr : World) (x : InA w wr M G N X T P c t) :
    Calls Tryz.prog 63 #[.pointer (some ⟨M, 0, none⟩), .int .i64 (L : Nat)] wr fun e w' => e = .returned (.int .u64 (v : Nat)) ∧ InA w w' M G N X (T + 1) P c t :=
  (loadX x.mem (by rw [x.len]; exact hL) x.tb hv).mono fun e w' ⟨h1, h2, h3⟩ => ⟨h1, x.only h2 h3 x.len (by have := x.tb; omega)⟩

def Km.lv (s : Km) (K : Cf) (v : Nat) : Km := { ({ s with least := lsV s.least v }.cl K 1 2).2 with pc := ({ s with least := lsV s.least v }.cl K 1 2).1 }
set_option maxHeartbeats 4000000 in
theorem kview_as {w : World} {M G P o : Nat} {X : List Nat} {T : Int} {c : Array Value} {t : TypeId} {K : Cf} {s : Km} (hK : K.Ok) (is : InA w w M G K.N X T P c t) (hs : KmAt c o K s) (hc : s.who < K.C) (hT : T + 1 < 4611686018427387904) :
    Calls Tryz.prog 64 #[.pointer (some ⟨P, o, none⟩), .pointer (some ⟨M, 0, none⟩)] w fun r w' => r = .returned (.tuple #[]) ∧ ∃ c', InA w w' M G K.N X (T + 1) P c' t ∧ KmAt c' o K (s.lv K (X.getD (K.vw s.who) 0)) ∧ Same c c' o (o + 91) := by
  have hvl := is.mem.fits (K.vw s.who)
  obtain ⟨v, hv⟩ : ∃ v, X.getD (K.vw s.who) 0 = v := ⟨_, rfl⟩
  have c0 := ldA (w := w) (M := M) (G := G) (P := P) (T := T) (c := c) (t := t) (K.vw_lt hc) hv hT
  rw [hv] at hvl ⊢
  have c1 := fun w => view_at hK hc w
  have c8 := hK.c8
  have hrd : ∀ wr T, InA w wr M G K.N X T P c t → _ := fun wr T x => hs.rdw x
  have n1 := hs.put_least (lsV s.least v)
  have c5 : ∀ wr c', InA w wr M G K.N X (T + 1) P c' t → KmAt c' o K { s with least := lsV s.least v } → Calls Tryz.prog 67 #[.pointer (some ⟨P, o, none⟩), .int .i64 1, .int .i64 2] wr fun r w' => r = .returned (.int .i64 (({ s with least := lsV s.least v }.cl K 1 2).1 : Nat)) ∧ ∃ c'', InA w w' M G K.N X (T + 1) P c'' t ∧ KmAt c'' o K ({ s with least := lsV s.least v }.cl K 1 2).2 ∧ Same c' c'' o (o + 91) := fun wr c' x y =>
    (kcl_as x.restart y (by show s.who < 64; omega) 1 2).mono fun r w' ⟨h1, c'', h2, h3, h4⟩ => ⟨h1, c'', x.join h2, h3, h4⟩
  have n0 : KmAt c o K { s with least := s.least } := hs
  have h9 : ∀ wr c', InA w wr M G K.N X (T + 1) P c' t → KmAt c' o K ({ s with least := lsV s.least v }.cl K 1 2).2 → ∃ q, wr.cell? ⟨P, o + 9, none⟩ = some (.int .i64 (q : Nat)) ∧ wr.frozen? ⟨P, o + 9, none⟩ = false := fun wr c' x y => ⟨_, x.cell y.pc, x.free _⟩
  have hfin : ∀ c', KmAt c' o K ({ s with least := lsV s.least v }.cl K 1 2).2 → KmAt (c'.setIfInBounds (o + 9) (.int .i64 (({ s with least := lsV s.least v }.cl K 1 2).1 : Nat))) o K (s.lv K v) := fun c' y => y.put_pc _
  obtain ⟨s', hs'⟩ : ∃ s' : Km, s.lv K v = s' := ⟨_, rfl⟩
  rw [hs'] at hfin ⊢
  obtain ⟨s2, hs2⟩ : ∃ s2 : Nat × Km, ({ s with least := lsV s.least v } : Km).cl K 1 2 = s2 := ⟨_, rfl⟩
  rw [hs2] at hfin
  simp only [hs2] at c5 h9
  obtain ⟨q2, s2⟩ := s2
  simp only at *
  have l12 : ∀ wr T, InA w wr M G K.N X T P c t → wr.cell? ⟨P, o + 12, none⟩ = some (.int .u64 (s.least : Nat)) ∧ wr.frozen? ⟨P, o + 12, none⟩ = false := fun wr T x => ⟨x.cell hs.least, x.free _⟩
  have s1 : Same c (c.setIfInBounds (o + 12) (.int .u64 (lsV s.least v : Nat))) o (o + 91) := Same.set _ _ (by omega)
  unfold Cf.cs at *
  generalize K.vw s.who = L at *
  clear hs' hs2 hv hK hc c8
  go_enter Tryz.func64, Tryz.ntmps64
  go_upto_region 0 with fail
  replace is := is.drew
  go_region_held (fun wr => wr.cell? ⟨P, o + 2, none⟩ = some (.int .i64 (K.S : Nat)) ∧ wr.cell? ⟨P, o + 2 + 1, none⟩ = some (.int .i64 K.a) ∧ wr.cell? ⟨P, o + 2 + 2, none⟩ = some (.int .i64 (K.C : Nat)) ∧ wr.cell? ⟨P, o + 2 + 3, none⟩ = some (.int .i64 (K.D : Nat)) ∧ wr.cell? ⟨P, o + 2 + 4, none⟩ = some (.int .i64 K.g) ∧ wr.cell? ⟨P, o + 2 + 5, none⟩ = some (.int .i64 K.k) ∧ wr.cell? ⟨P, o + 10, none⟩ = some (.int .i64 (s.who : Nat)) ∧ wr.cell? ⟨P, o + 11, none⟩ = some (.int .i64 (s.en : Nat))) (with_reducible exact hrd _ _ is) (first
    | (go_at_call 82; with_reducible refine (c1 _).mono ?_; rintro e w3 ⟨rfl, b⟩; replace is := is.below b)
    | (go_at_call 63; with_reducible refine (c0 _ is).mono ?_; rintro e w3 ⟨rfl, i1⟩; clear is; have is := i1; clear i1))
  clear hrd c0 c1
  obtain ⟨q12, f12⟩ := l12 _ _ is
  clear l12
  by_cases v0 : v = 0
  · have e : lsV s.least v = s.least := by unfold lsV; rw [if_pos v0]
    subst v0
    have cc := c5 _ _ is (by rw [e]; exact hs)
    clear c5
    go_wp2_with (go_at_call 67; with_reducible refine cc.mono ?_; rintro e w4 ⟨rfl, c4, i4, n4, s4⟩; obtain ⟨_, l9, f9⟩ := h9 _ _ i4 n4)
    go_end0
    exact ⟨rfl, _, i4.set _ _, hfin _ n4, s4.trans (Same.set _ _ (by omega))⟩
  · by_cases v1 : v = 1
    · have e : lsV s.least v = 0 := by unfold lsV; rw [if_neg v0, if_pos v1]
      subst v1
      rw [e] at n1 s1
      have cc := c5 _ _ (is.set (o + 12) (.int .u64 ((0 : Nat) : Int))) (by rw [e]; exact n1)
      rw [show ((0 : Nat) : Int) = 0 from rfl] at *
      clear c5
      go_wp2_with (go_at_call 67; with_reducible refine cc.mono ?_; rintro e w4 ⟨rfl, c4, i4, n4, s4⟩; obtain ⟨_, l9, f9⟩ := h9 _ _ i4 n4)
      go_end0
      exact ⟨rfl, _, i4.set _ _, hfin _ n4, (s1.trans s4).trans (Same.set _ _ (by omega))⟩
    · have e : lsV s.least v = min s.least (v - 2) := by unfold lsV; rw [if_neg v0, if_neg v1]
      have v0' : ((v : Int) == 0) = false := by simp; omega
      have v1' : ((v : Int) == 1) = false := by simp; omega
      have e3 : IntKind.u64.wrap ((v : Int) - 2) = ((v - 2 : Nat) : Int) := by rw [IntKind.wrap_u64]; omega
      have cc := c5 _ _ (is.set (o + 12) (.int .u64 ((min s.least (v - 2) : Nat) : Int))) (by rw [e]; rw [e] at n1; exact n1)
      rw [e] at s1
      clear c5 n1 e v0 v1 hvl n0
      generalize v - 2 = y at *
      by_cases hy : y < s.least
      · have e4 : min s.least y = y := by omega
        rw [e4] at cc s1
        have hy1 : (y : Int) < (s.least : Int) := by omega
        clear e4 hy
        go_wp2_with (go_at_call 67; with_reducible refine cc.mono ?_; rintro e w4 ⟨rfl, c4, i4, n4, s4⟩; obtain ⟨_, l9, f9⟩ := h9 _ _ i4 n4)
        go_end0
        exact ⟨rfl, _, i4.set _ _, hfin _ n4, (s1.trans s4).trans (Same.set _ _ (by omega))⟩
      · have e4 : min s.least y = s.least := by omega
        rw [e4] at cc s1
        have hy1 : ¬ (y : Int) < (s.least : Int) := by omega
        clear e4 hy
        go_wp2_with (go_at_call 67; with_reducible refine cc.mono ?_; rintro e w4 ⟨rfl, c4, i4, n4, s4⟩; obtain ⟨_, l9, f9⟩ := h9 _ _ i4 n4)
        go_end0
        exact ⟨rfl, _, i4.set _ _, hfin _ n4, (s1.trans s4).trans (Same.set _ _ (by omega))⟩

def Km.eb (s : Km) (K : Cf) : Nat × Km := if s.en + 1 < K.D then (2, { s with en := s.en + 1 }) else ({ s with en := 0 } : Km).cl K 2 3
def Km.le (s : Km) (K : Cf) (v : Nat) : Km := (s.eb K).2.find K (((v % 4294967296 : Nat) : Int) - 1) (s.eb K).1
set_option maxHeartbeats 4000000 in
theorem kentry_as {w : World} {M G P o : Nat} {X : List Nat} {T : Int} {c : Array Value} {t : TypeId} {K : Cf} {s : Km} (hK : K.Ok) (is : InA w w M G K.N X T P c t) (hs : KmAt c o K s) (hc : s.who < K.C) (he : s.en < K.D) (hT : T + 1 < 4611686018427387904) :
    Calls Tryz.prog 65 #[.pointer (some ⟨P, o, none⟩), .pointer (some ⟨M, 0, none⟩)] w fun r w' => r = .returned (.tuple #[]) ∧ ∃ c', InA w w' M G K.N X (T + 1) P c' t ∧ KmAt c' o K (s.le K (X.getD (K.en s.who s.en) 0)) ∧ Same c c' o (o + 91) := by
  have hvl := is.mem.fits (K.en s.who s.en)
  obtain ⟨v, hv⟩ : ∃ v, X.getD (K.en s.who s.en) 0 = v := ⟨_, rfl⟩
  have c0 := ldA (w := w) (M := M) (G := G) (P := P) (T := T) (c := c) (t := t) (K.en_lt hc he) hv hT
  rw [hv] at hvl ⊢
  have c1 := fun w => entry_at hK hc he w
  have c2 := Tg.entryParts_any v hvl
  have c8 := hK.c8
  have d16 := hK.d16
  have hrd : ∀ wr T, InA w wr M G K.N X T P c t → _ := fun wr T x => hs.rdw x
  have n1 := hs.put_en (s.en + 1)
  have n2 := n1.put_en 0
  simp only at n2
  have c14 : ∀ wr c' (s' : Km) (q : Nat), InA w wr M G K.N X (T + 1) P c' t → KmAt c' o K s' → Calls Tryz.prog 66 #[.pointer (some ⟨P, o, none⟩), .int .i64 (((v % 4294967296 : Nat) : Int) - 1), .int .i64 (q : Nat)] wr fun r w' => r = .returned (.tuple #[]) ∧ ∃ c'', InA w w' M G K.N X (T + 1) P c'' t ∧ KmAt c'' o K (s'.find K (((v % 4294967296 : Nat) : Int) - 1) q) ∧ Same c' c'' o (o + 91) := fun wr c' s' q x y =>
    (kfind_any hK x.restart y _ q).mono fun r w' ⟨h1, c'', h2, h3, h4⟩ => ⟨h1, c'', x.join h2, h3, h4⟩
  have c5 : ∀ wr c', InA w wr M G K.N X (T + 1) P c' t → KmAt c' o K { s with en := 0 } → Calls Tryz.prog 67 #[.pointer (some ⟨P, o, none⟩), .int .i64 2, .int .i64 3] wr fun r w' => r = .returned (.int .i64 (({ s with en := 0 }.cl K 2 3).1 : Nat)) ∧ ∃ c'', InA w w' M G K.N X (T + 1) P c'' t ∧ KmAt c'' o K ({ s with en := 0 }.cl K 2 3).2 ∧ Same c' c'' o (o + 91) := fun wr c' x y =>
    (kcl_as x.restart y (by show s.who < 64; omega) 2 3).mono fun r w' ⟨h1, c'', h2, h3, h4⟩ => ⟨h1, c'', x.join h2, h3, h4⟩
  have e1 : IntKind.i64.wrap ((s.en : Int) + 1) = ((s.en + 1 : Nat) : Int) := by rw [IntKind.wrap_i64]; omega
  have h11 : ∀ wr T, InA w wr M G K.N X T P c t → wr.cell? ⟨P, o + 11, none⟩ = some (.int .i64 (s.en : Nat)) ∧ wr.frozen? ⟨P, o + 11, none⟩ = false := fun wr T x => ⟨x.cell hs.en, x.free _⟩
  have hz : ∀ wr c', InA w wr M G K.N X (T + 1) P c' t → KmAt c' o K { s with en := s.en + 1 } → wr.cell? ⟨P, o + 11, none⟩ = some (.int .i64 ((s.en + 1 : Nat) : Int)) ∧ wr.cell? ⟨P, o + 2 + 3, none⟩ = some (.int .i64 (K.D : Nat)) ∧ wr.frozen? ⟨P, o + 11, none⟩ = false := fun wr c' x y => ⟨x.cell y.en, x.cell y.k3, x.free _⟩
  have s1 : Same c (c.setIfInBounds (o + 11) (.int .i64 ((s.en + 1 : Nat) : Int))) o (o + 91) := Same.set _ _ (by omega)
  unfold Km.le
  obtain ⟨eb, heb⟩ : ∃ eb, s.eb K = eb := ⟨_, rfl⟩
  rw [heb]
  replace heb := hid1 heb
  generalize ((v % 4294967296 : Nat) : Int) - 1 = y at *
  generalize v / 4294967296 = y0 at *
  unfold Cf.cs at *
  generalize K.en s.who s.en = L at *
  clear hv hK hc c8 d16 hvl hs he
  go_enter Tryz.func65, Tryz.ntmps65
  go_upto_region 0 with fail
  replace is := is.drew
  go_region_held (fun wr => wr.cell? ⟨P, o + 2, none⟩ = some (.int .i64 (K.S : Nat)) ∧ wr.cell? ⟨P, o + 2 + 1, none⟩ = some (.int .i64 K.a) ∧ wr.cell? ⟨P, o + 2 + 2, none⟩ = some (.int .i64 (K.C : Nat)) ∧ wr.cell? ⟨P, o + 2 + 3, none⟩ = some (.int .i64 (K.D : Nat)) ∧ wr.cell? ⟨P, o + 2 + 4, none⟩ = some (.int .i64 K.g) ∧ wr.cell? ⟨P, o + 2 + 5, none⟩ = some (.int .i64 K.k) ∧ wr.cell? ⟨P, o + 10, none⟩ = some (.int .i64 (s.who : Nat)) ∧ wr.cell? ⟨P, o + 11, none⟩ = some (.int .i64 (s.en : Nat))) (with_reducible exact hrd _ _ is) (first
    | (go_at_call 56; with_reducible refine (c1 _).mono ?_; rintro e w3 ⟨rfl, b⟩; replace is := is.below b)
    | (go_at_call 55; with_reducible refine (c2 _).mono ?_; rintro e w3 ⟨rfl, b⟩; replace is := is.below b)
    | (go_at_call 63; with_reducible refine (c0 _ is).mono ?_; rintro e w3 ⟨rfl, i1⟩; clear is; have is := i1; clear i1))
  clear hrd c0 c1 c2
  obtain ⟨q11, f11⟩ := h11 _ _ is
  clear h11
  replace is := is.set (o + 11) (.int .i64 ((s.en + 1 : Nat) : Int))
  by_cases hd : s.en + 1 < K.D
  · obtain rfl : eb = (2, { s with en := s.en + 1 }) := by rw [← heb.out]; unfold Km.eb; rw [if_pos hd]
    have hd1 : ((s.en + 1 : Nat) : Int) < (K.D : Int) := by omega
    have hd2 : decide ((K.D : Int) ≤ ((s.en + 1 : Nat) : Int)) = false := decide_eq_false (by omega)
    have hd3 : ¬ (K.D : Int) ≤ ((s.en + 1 : Nat) : Int) := by omega
    clear heb hd n2 c5
    generalize hw1 : ({ s with en := s.en + 1 } : Km) = s' at *
    replace hw1 := hid1 hw1
    generalize hse : s.en + 1 = s1' at *
    replace hse := hid1 hse
    go_upto_region 3 with fail
    clear q11 f11 e1
    generalize World.setCell _ _ _ = w4 at *
    obtain ⟨q1, q2, _⟩ := hz _ _ is n1
    clear hz
    go_quiet (fail)
    replace is := is.below (below_drewN (Below.refl _ w4) nq)
    clear q1 q2
    generalize w4.drewN nq = w5 at *
    have cc := c14 _ _ _ 2 is n1
    rw [show ((2 : Nat) : Int) = 2 from rfl] at cc
    clear c14
    go_wp2_with (go_at_call 66; with_reducible refine cc.mono ?_; rintro e w6 ⟨rfl, c6, i6, n6, s6⟩)
    go_end0
    rw [← hw1.out, ← hse.out] at n6
    exact ⟨rfl, _, i6, n6, s1.trans s6⟩
  · obtain rfl : eb = ({ s with en := 0 } : Km).cl K 2 3 := by rw [← heb.out]; unfold Km.eb; rw [if_neg hd]
    have hd2 : decide ((K.D : Int) ≤ ((s.en + 1 : Nat) : Int)) = true := decide_eq_true (by omega)
    have hd3 : (K.D : Int) ≤ ((s.en + 1 : Nat) : Int) := by omega
    clear heb hd
    obtain ⟨s3, hs3⟩ : ∃ s3, ({ s with en := 0 } : Km).cl K 2 3 = s3 := ⟨_, rfl⟩
    simp only [hs3] at c5
    obtain ⟨q3, s3⟩ := s3
    replace hs3 := hid1 hs3
    simp only at c5
    generalize s.en + 1 = s1' at *
    go_upto_region 3 with fail
    clear q11 f11 e1
    generalize World.setCell _ _ _ = w4 at *
    obtain ⟨q1, q2, _⟩ := hz _ _ is n1
    go_quiet (fail)
    replace is := is.below (below_drewN (Below.refl _ w4) nq)
    clear q1 q2
    generalize w4.drewN nq = w5 at *
    obtain ⟨q1, _, f1⟩ := hz _ _ is n1
    clear hz
    replace is := is.set (o + 11) (.int .i64 0)
    have cc := c5 _ _ is n2
    clear c5
    go_wp2_with (first
      | (go_at_call 67; with_reducible refine cc.mono ?_; rintro e w6 ⟨rfl, c6, i6, n6, s6⟩; have cd := c14 _ _ _ q3 i6 n6; clear c14)
      | (go_at_call 66; with_reducible refine cd.mono ?_; rintro e w7 ⟨rfl, c7, i7, n7, s7⟩))
    go_end0
    refine ⟨rfl, _, i7, ?_, ((s1.trans (Same.set _ _ (by omega))).trans s6).trans s7⟩
    rw [hs3.out]
    exact n7

def Km.lg (s : Km) (v : Nat) : Km := { s with ps := s.ps + 1, nx := 0, pc := if v = 0 then 16 else 4 }
set_option maxHeartbeats 4000000 in
theorem kgrays_as {w : World} {M G P o : Nat} {X : List Nat} {T : Int} {c : Array Value} {t : TypeId} {K : Cf} {s : Km} (hK : K.Ok) (is : InA w w M G K.N X T P c t) (hs : KmAt c o K s) (hp : s.ps < 4611686018427387904) (hT : T + 1 < 4611686018427387904) :
    Calls Tryz.prog 69 #[.pointer (some ⟨P, o, none⟩), .pointer (some ⟨M, 0, none⟩)] w fun r w' => r = .returned (.tuple #[]) ∧ ∃ c', InA w w' M G K.N X (T + 1) P c' t ∧ KmAt c' o K (s.lg (X.getD 2 0)) ∧ Same c c' o (o + 91) := by
  have hN := hK.N_b
  obtain ⟨v, hv⟩ : ∃ v, X.getD 2 0 = v := ⟨_, rfl⟩
  have c0 := fun c => ldA (w := w) (M := M) (G := G) (P := P) (T := T) (c := c) (t := t) (L := 2) (N := K.N) (by omega) hv hT
  rw [show ((2 : Nat) : Int) = 2 from rfl] at c0
  rw [hv]
  have n1 := hs.put_ps (s.ps + 1)
  have n2 := n1.put_nx 0
  have n3 := n2.put_pc 4
  have n4 := n3.put_pc 16
  simp only at n3 n4
  have e1 : IntKind.i64.wrap ((s.ps : Int) + 1) = ((s.ps + 1 : Nat) : Int) := by rw [IntKind.wrap_i64]; omega
  have s1 : Same c (((c.setIfInBounds o (.int .i64 ((s.ps + 1 : Nat) : Int))).setIfInBounds (o + 86) (.int .i64 0)).setIfInBounds (o + 9) (.int .i64 4)) o (o + 91) := ((Same.set _ _ (by omega)).trans (Same.set _ _ (by omega))).trans (Same.set _ _ (by omega))
  have l0 := is.cell hs.ps
  have l86 := is.cell hs.nx
  have l9 := is.cell hs.pc
  have fz := is.free
  replace is := ((is.set o (.int .i64 ((s.ps + 1 : Nat) : Int))).set (o + 86) (.int .i64 0)).set (o + 9) (.int .i64 4)
  have hlg : Hid (∀ v, s.lg v = { s with ps := s.ps + 1, nx := 0, pc := if v = 0 then 16 else 4 }) := fun v => rfl
  obtain ⟨fz', hfz⟩ : ∃ f, s.lg v = f := ⟨_, rfl⟩
  rw [hfz]
  replace hfz := hid1 hfz
  clear hv hs hN hK
  generalize s.ps + 1 = p1 at *
  go_enter Tryz.func69, Tryz.ntmps69
  go_upto_region 3 with fail
  clear l0 l86 l9 fz e1
  generalize World.setCell _ _ _ = w4 at *
  have l9 := is.cell n3.pc
  have cc := c0 _ _ is
  have h9 : ∀ wr T, InA w wr M G K.N X T P (((c.setIfInBounds o (.int .i64 (p1 : Nat))).setIfInBounds (o + 86) (.int .i64 0)).setIfInBounds (o + 9) (.int .i64 4)) t → wr.cell? ⟨P, o + 9, none⟩ = some (.int .i64 4) ∧ wr.frozen? ⟨P, o + 9, none⟩ = false := fun wr T x => ⟨x.cell n3.pc, x.free _⟩
  clear c0
  by_cases v0 : v = 0
  · subst v0
    obtain rfl : fz' = { s with ps := p1, nx := 0, pc := 16 } := by rw [← hfz.out, hlg.out]; rfl
    clear hfz hlg
    go_wp2_with (go_at_call 63; with_reducible refine cc.mono ?_; rintro e w5 ⟨rfl, i5⟩; clear l9; obtain ⟨l9, f9⟩ := h9 _ _ i5)
    go_end0
    exact ⟨rfl, _, i5.set _ _, n4, s1.trans (Same.set _ _ (by omega))⟩
  · obtain rfl : fz' = { s with ps := p1, nx := 0, pc := 4 } := by rw [← hfz.out, hlg.out, if_neg v0]
    clear hfz hlg
    have v0' : ((v : Int) == 0) = false := by simp; omega
    go_wp2_with (go_at_call 63; with_reducible refine cc.mono ?_; rintro e w5 ⟨rfl, i5⟩; clear l9; obtain ⟨l9, f9⟩ := h9 _ _ i5)
    go_end0
    exact ⟨rfl, _, i5, n3, s1⟩

set_option maxHeartbeats 4000000 in
theorem kload_as {w : World} {M G P o : Nat} {X : List Nat} {T : Int} {c : Array Value} {t : TypeId} {K : Cf} {s : Km} (hK : K.Ok) (is : InA w w M G K.N X T P c t) (hs : KmAt c o K s) (hl : s.sl < K.S) {i : Nat} (hi : i < K.B) (hT : T + 1 < 4611686018427387904) {v : Nat} (hv : X.getD (K.bd s.sl i) 0 = v) :
    Calls Tryz.prog 89 #[.pointer (some ⟨P, o, none⟩), .pointer (some ⟨M, 0, none⟩), .int .i64 (i : Nat)] w fun r w' => r = .returned (.int .u64 (v : Nat)) ∧ InA w w' M G K.N X (T + 1) P c t := by
  have c0 := ldA (w := w) (M := M) (G := G) (P := P) (T := T) (c := c) (t := t) (K.bd_lt hl hi) hv hT
  have c1 := fun w => body_at hK hl hi w
  have hrd : ∀ wr T, InA w wr M G K.N X T P c t → wr.cell? ⟨P, o + 2, none⟩ = some (.int .i64 (K.S : Nat)) ∧ wr.cell? ⟨P, o + 2 + 1, none⟩ = some (.int .i64 K.a) ∧ wr.cell? ⟨P, o + 2 + 2, none⟩ = some (.int .i64 (K.C : Nat)) ∧ wr.cell? ⟨P, o + 2 + 3, none⟩ = some (.int .i64 (K.D : Nat)) ∧ wr.cell? ⟨P, o + 2 + 4, none⟩ = some (.int .i64 K.g) ∧ wr.cell? ⟨P, o + 2 + 5, none⟩ = some (.int .i64 K.k) ∧ wr.cell? ⟨P, o + 87, none⟩ = some (.int .i64 (s.sl : Nat)) := fun wr T x => ⟨x.cell hs.k0, x.cell hs.k1, x.cell hs.k2, x.cell hs.k3, x.cell hs.k4, x.cell hs.k5, x.cell hs.sl⟩
  unfold Cf.cs at *
  generalize K.bd s.sl i = L at *
  clear hv hK hl hi hs
  go_enter Tryz.func89, Tryz.ntmps89
  go_upto_region 1 with fail
  replace is := is.drew
  go_region_held (fun wr => wr.cell? ⟨P, o + 2, none⟩ = some (.int .i64 (K.S : Nat)) ∧ wr.cell? ⟨P, o + 2 + 1, none⟩ = some (.int .i64 K.a) ∧ wr.cell? ⟨P, o + 2 + 2, none⟩ = some (.int .i64 (K.C : Nat)) ∧ wr.cell? ⟨P, o + 2 + 3, none⟩ = some (.int .i64 (K.D : Nat)) ∧ wr.cell? ⟨P, o + 2 + 4, none⟩ = some (.int .i64 K.g) ∧ wr.cell? ⟨P, o + 2 + 5, none⟩ = some (.int .i64 K.k) ∧ wr.cell? ⟨P, o + 87, none⟩ = some (.int .i64 (s.sl : Nat))) (with_reducible exact hrd _ _ is) (first
    | (go_at_call 60; with_reducible refine (c1 _).mono ?_; rintro e w3 ⟨rfl, b⟩; replace is := is.below b)
    | (go_at_call 63; with_reducible refine (c0 _ is).mono ?_; rintro e w3 ⟨rfl, i1⟩; clear is; have is := i1; clear i1))
  clear hrd c0 c1
  go_wp2
  go_ret
  exact ⟨rfl, is⟩
end Go.Proofs.YtcioomopgdhlmaaGreatDoor
