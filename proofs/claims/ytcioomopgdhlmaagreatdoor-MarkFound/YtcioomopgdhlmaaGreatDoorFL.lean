/- The statement MarkFound: its walk. -/
import Derived.Test.YtcioomopgdhlmaaGreatDoorFS
import Derived.Test.YtcioomopgdhlmaaGreatDoorBLaid
import Derived.Test.YtcioomopgdhlmaaGreatDoorPFit
import Derived.Test.YtcioomopgdhlmaaGreatDoorCAw
import Derived.Deep.RegionHeld3
namespace Go.Proofs.YtcioomopgdhlmaaGreatDoor
open Go.RowKit
open Mm (IsMem MS touched Only IsWords)
open Hh (WT okW wordOf IsHd blackN)

theorem wt_stored6 {w : World} {r : Nat} (h : WT w) (hr : 0 < r) (v0 v1 v2 v3 v4 v5 : Value) : WT ((((((w.setCell ⟨r, 0, none⟩ v0).setCell ⟨r, 1, none⟩ v1).setCell ⟨r, 2, none⟩ v2).setCell ⟨r, 3, none⟩ v3).setCell ⟨r, 4, none⟩ v4).setCell ⟨r, 5, none⟩ v5) :=
  (((((h.set hr v0).set hr v1).set hr v2).set hr v3).set hr v4).set hr v5
theorem RdV.below {w w' : World} {ad : Option Addr} {n : Nat} {Z : Nat → Sv} (h : RdV w ad n Z) (b : Below w.heap.size w w') : RdV w' ad n Z := fun i hi => by
  obtain ⟨b', off, rfl, hbl, ⟨q0, q1, q2, q3, q4, q5⟩, bad, bcap, q6, hl, hb⟩ := h i hi
  have hs := b.size
  have hc : ∀ o v, w.cell? ⟨b', o, none⟩ = some v → w'.cell? ⟨b', o, none⟩ = some v := fun o v q => (b.cell (p := ⟨b', o, none⟩) hbl).trans q
  refine ⟨b', off, rfl, by omega, ⟨hc _ _ q0, hc _ _ q1, hc _ _ q2, hc _ _ q3, hc _ _ q4, hc _ _ q5⟩, bad, bcap, hc _ _ q6, hl, fun j hj => ?_⟩
  obtain ⟨b2, o2, e1, e2, e3, e4⟩ := hb j hj
  exact ⟨b2, o2, e1, by omega, (b.cell (p := ⟨b2, o2 + j, none⟩) e2).trans e3, e4⟩
theorem RdU.below {w w' : World} {ad : Option Addr} {n : Nat} {r : Nat → Nat} (h : RdU w ad n r) (b : Below w.heap.size w w') : RdU w' ad n r := fun i hi => by
  obtain ⟨b', off, rfl, hbl, q0, q1⟩ := h i hi
  exact ⟨b', off, rfl, Nat.lt_of_lt_of_le hbl b.size, (b.cell (p := ⟨b', off + i, none⟩) hbl).trans q0, q1⟩
theorem RdU.words {w : World} {ad : Option Addr} {n : Nat} {r : Nat → Nat} (h : RdU w ad n r) (hn : 0 < n) : ∃ b off, ad = some ⟨b, off, none⟩ ∧ RdW w b off ((List.range n).map r) ∧ ∀ i, ((List.range n).map r).getD i 0 < 18446744073709551616 := by
  obtain ⟨b, off, rfl, hbl, _, _⟩ := h 0 hn
  refine ⟨b, off, rfl, ⟨hbl, fun i hi => ?_⟩, fun i => ?_⟩
  · have hi' : i < n := by simpa using hi
    obtain ⟨b', off', e, _, q, _⟩ := h i hi'
    simp only [Option.some.injEq, Addr.mk.injEq] at e
    obtain ⟨rfl, rfl, -⟩ := e
    rw [q]
    simp [hi']
  · by_cases hi : i < n
    · obtain ⟨_, _, _, _, _, q⟩ := h i hi
      simpa [hi] using q
    · simp [hi]

/-- What both searches tell: nothing, or a row of bools. -/
def FO (w : World) (o : Option (Nat × (Nat → Bool))) (v : Value) : Prop := match o with
  | none => v = .slice none 0 0
  | some (S, B) => ∃ R, v = .slice (some ⟨R, 0, none⟩) S S ∧ w.heap[R]? = some (.cells (bools S B) 4 (0, 0)) ∧ S ≤ 64
theorem FO.below {w w' : World} {o : Option (Nat × (Nat → Bool))} {v : Value} (h : FO w o v) (b : Below w.heap.size w w') : FO w' o v := by
  match o with
  | none => exact h
  | some (S, B) => obtain ⟨R, h1, h2, h3⟩ := h; exact ⟨R, h1, (b.block _ (lt_of_block h2)).trans h2, h3⟩
theorem FO.form {w : World} {o : Option (Nat × (Nat → Bool))} {v : Value} (h : FO w o v) : ∃ ad n c, v = .slice ad n c := by
  match o with
  | none => exact ⟨_, _, _, h⟩
  | some (S, B) => obtain ⟨R, h1, _⟩ := h; exact ⟨_, _, _, h1⟩
theorem same_o {w : World} {o : Option (Nat × (Nat → Bool))} {v1 v2 : Value} (h1 : FO w o v1) (h2 : FO w o v2) : Calls Tryz.prog 5 #[v1, v2] w fun r w' => r = .returned (.bool true) ∧ Below w.heap.size w w' := by
  match o with
  | none =>
    obtain rfl : v1 = .slice none 0 0 := h1
    obtain rfl : v2 = .slice none 0 0 := h2
    exact same_nil w
  | some (S, B) =>
    obtain ⟨R1, rfl, k1, hS⟩ := h1
    obtain ⟨R2, rfl, k2, _⟩ := h2
    exact same_yes (M := B) (by omega) (lt_of_block k1) (lt_of_block k2) (fun i hi => by simp only [World.cell?, k1, Nat.zero_add]; exact bools_get B hi) (fun i hi => by simp only [World.cell?, k2, Nat.zero_add]; exact bools_get B hi)

/-- Both searches, of whatever config and words. -/
theorem both_any (s a c d g k : Int) {ad : Option Addr} {n cap e : Nat} {r : Nat → Nat} {w : World} (hr : RdU w ad n r) (hw : WT w) (he : e < 18446744073709551616) :
    ∃ o, (∀ wr, Below w.heap.size w wr → Calls Tryz.prog 6 #[.agg #[.int .i64 s, .int .i64 a, .int .i64 c, .int .i64 d, .int .i64 g, .int .i64 k], .slice ad n cap, .int .u64 (e : Nat)] wr fun q w' => ∃ v, q = .returned v ∧ FO w' o v ∧ Below wr.heap.size wr w') ∧
      (∀ wr, Below w.heap.size w wr → Calls Tryz.prog 7 #[.agg #[.int .i64 s, .int .i64 a, .int .i64 c, .int .i64 d, .int .i64 g, .int .i64 k], .slice ad n cap, .int .u64 (e : Nat)] wr fun q w' => ∃ v, q = .returned v ∧ FO w' o v ∧ Below wr.heap.size wr w') := by
  cases hrt : rightB s a c d g k with
  | false => exact ⟨none, fun wr _ => (found_no hrt wr).mono fun q w' ⟨h1, h2⟩ => ⟨_, h1, rfl, h2⟩, fun wr _ => (rfound_no hrt wr).mono fun q w' ⟨h1, h2⟩ => ⟨_, h1, rfl, h2⟩⟩
  | true =>
    obtain ⟨K, hK, rfl, rfl, rfl, rfl, rfl, rfl⟩ := Cf.of_right hrt
    by_cases hn : n = K.N
    · subst hn
      have hN := hK.N_b
      have hB : 3 ≤ K.B := by
        obtain ⟨C, D, S, B, _, _, _, h4, _, h6, _⟩ := nat_cfg hrt
        have := hK.b
        omega
      obtain ⟨b, off, rfl, hR, hlt⟩ := hr.words (by omega)
      have hX : ((List.range K.N).map r).length = K.N := by simp
      generalize (List.range K.N).map r = X at *
      refine ⟨some (K.S, fun s => @decide ((gp K X e).m0 s = true ∨ Rch (gp K X e) s) (Classical.propDecidable _)), fun wr b => ?_, fun wr b => ?_⟩
      · refine (found_any (hw.below b) hK hB (hR.below b) hX hlt he).mono fun q w' ⟨R, M, h1, h2, h3, h4, h5⟩ => ⟨_, h1, ⟨R, rfl, ?_, hK.s64⟩, h5⟩
        have : M = fun s => @decide ((gp K X e).m0 s = true ∨ Rch (gp K X e) s) (Classical.propDecidable _) := by
          funext s
          have := h2.fin (gp_ok K X e) s
          cases hm : M s <;> simp_all
        rw [← this]
        exact h3
      · refine (rfound_any hK hB (hR.below b) hX hlt he).mono fun q w' ⟨R, h1, h2, h3, Fd, ⟨Th, L, k, h4, h5⟩, h6⟩ => ⟨_, h1, ⟨R, rfl, ?_, hK.s64⟩, h3⟩
        have : Fd = fun s => @decide ((gp K X e).m0 s = true ∨ Rch (gp K X e) s) (Classical.propDecidable _) := by
          funext s
          have := h4.fin (gp_ok K X e) h5 s
          cases hm : Fd s <;> simp_all
        rw [← this]
        exact h6
    · exact ⟨none, fun wr _ => (found_len hK hn wr).mono fun q w' ⟨h1, h2⟩ => ⟨_, h1, rfl, h2⟩, fun wr _ => (rfound_len hK hn wr).mono fun q w' ⟨h1, h2⟩ => ⟨_, h1, rfl, h2⟩⟩
end Go.Proofs.YtcioomopgdhlmaaGreatDoor
/- The statement MarkFound: its walk. -/
namespace Go.Proofs.YtcioomopgdhlmaaGreatDoor
open Go.RowKit
open Mm (IsMem MS touched Only IsWords)
open Hh (WT okW wordOf IsHd blackN)

theorem rdu_of {w : World} {R n : Nat} {X : List Nat} (h : IsWords w R X) (hl : X.length = n) (hb : ∀ i, X.getD i 0 < 18446744073709551616) : RdU w (some ⟨R, 0, none⟩) n (fun i => X.getD i 0) := fun i hi =>
  ⟨R, 0, rfl, lt_of_block (show w.heap[R]? = _ from h), by rw [Nat.zero_add]; exact Mm.words_at h i (by omega), hb i⟩
structure Lf (w wr : World) (s a c d g k : Int) : Prop where
  cfg : IsCfg wr w.heap.size s a c d g k
  bel : Below w.heap.size w wr
  wt : WT wr
theorem Lf.below {w wr w' : World} {s a c d g k : Int} (h : Lf w wr s a c d g k) (b : Below wr.heap.size wr w') : Lf w w' s a c d g k := ⟨h.cfg.below b, seq_below h.bel b, h.wt.below b⟩

set_option maxRecDepth 100000 in
set_option maxHeartbeats 16000000 in
theorem law_any (s a c d g k : Int) {ad1 : Option Addr} {n1 cap1 : Nat} {Z : Nat → Sv} {ad2 : Option Addr} {n2 cap2 : Nat} {rr : Nat → Nat} {ad3 : Option Addr} {n3 cap3 : Nat} {vv : Nat → Nat} {e : Nat} (raw : Bool)
    {w : World} (hw : WT w) (hZ : RdV w ad1 n1 Z) (hr : RdU w ad2 n2 rr) (hv : RdU w ad3 n3 vv) (h1 : n1 < 9223372036854775808) (h2 : n2 < 9223372036854775808) (h3 : n3 < 9223372036854775808) (he : e < 18446744073709551616) :
    Calls Tryz.prog 3 #[.agg (cs s a c d g k), .slice ad1 n1 cap1, .slice ad2 n2 cap2, .slice ad3 n3 cap3, .int .u64 (e : Nat), .bool raw] w fun r w' => r = .returned (.bool true) ∧ Below w.heap.size w w' := by
  have is : Lf w (w.alloc (.cells #[.int .i64 s, .int .i64 a, .int .i64 c, .int .i64 d, .int .i64 g, .int .i64 k] 23)) s a c d g k := ⟨cfg_new w s a c d g k, alloc_below _ _, hw.new _⟩
  have cA := hid1 (fun (w : World) (hw : WT w) => awake_any w hw)
  have hw0 := hw.lt
  have Hw := hid1 hw
  have HZ := hid1 hZ
  have HR := hid1 hr
  have HV := hid1 hv
  have cF := hid1 (fun w => Fit_any s a c d g k w)
  have b1 := hid1 h1
  have b2 := hid1 h2
  have b3 := hid1 h3
  clear hZ hr hv hw h1 h2 h3
  unfold cs at *
  go_enter Tryz.func3, Tryz.ntmps3
  go_upto_region 1 with fail
  generalize w.alloc (.cells #[.int .i64 s, .int .i64 a, .int .i64 c, .int .i64 d, .int .i64 g, .int .i64 k] 23) = w1 at *
  by_cases hl1 : 20 < n1
  · have q1 : (20 : Int) < (n1 : Int) := by omega
    go_wp2_with (go_at_call 4; with_reducible refine (cA.out _ is.wt).mono ?_; rintro r w5 ⟨rfl, b⟩; replace is := is.below b)
    go_ret
    exact ⟨rfl, is.bel⟩
  have q1 : ¬ (20 : Int) < (n1 : Int) := by omega
  by_cases hl2 : 700 < n2
  · have q2 : (700 : Int) < (n2 : Int) := by omega
    go_wp2_with (go_at_call 4; with_reducible refine (cA.out _ is.wt).mono ?_; rintro r w5 ⟨rfl, b⟩; replace is := is.below b)
    go_ret
    exact ⟨rfl, is.bel⟩
  have q2 : ¬ (700 : Int) < (n2 : Int) := by omega
  cases raw with
  | true =>
    obtain ⟨o, c6, c7⟩ := both_any s a c d g k (cap := cap2) (e := e) HR.out Hw.out he
    have C6 := hid1 c6
    have C7 := hid1 c7
    clear c6 c7
    go_upto_region 4 with (go_at_call 4; with_reducible refine (cA.out _ is.wt).mono ?_; rintro r w5 ⟨rfl, b⟩; replace is := is.below b; clear b)
    replace is := is.below (Below.refl _ _).drew
    obtain ⟨bc, hbc⟩ : ∃ bc, w.heap.size = bc := ⟨_, rfl⟩
    have HCc := hid1 (fun (wr : World) (h : Lf w wr s a c d g k) => (by have q := h.cfg.cells; rw [hbc] at q; exact q : wr.cell? ⟨bc, 0, none⟩ = some (.int .i64 s) ∧ wr.cell? ⟨bc, 1, none⟩ = some (.int .i64 a) ∧ wr.cell? ⟨bc, 2, none⟩ = some (.int .i64 c) ∧ wr.cell? ⟨bc, 3, none⟩ = some (.int .i64 d) ∧ wr.cell? ⟨bc, 4, none⟩ = some (.int .i64 g) ∧ wr.cell? ⟨bc, 5, none⟩ = some (.int .i64 k)))
    rw [hbc]
    go_region_held (fun wr => wr.cell? ⟨bc, 0, none⟩ = some (.int .i64 s) ∧ wr.cell? ⟨bc, 1, none⟩ = some (.int .i64 a) ∧ wr.cell? ⟨bc, 2, none⟩ = some (.int .i64 c) ∧ wr.cell? ⟨bc, 3, none⟩ = some (.int .i64 d) ∧ wr.cell? ⟨bc, 4, none⟩ = some (.int .i64 g) ∧ wr.cell? ⟨bc, 5, none⟩ = some (.int .i64 k)) (with_reducible exact HCc.out _ is) (first
      | (go_at_call 6; with_reducible refine (C6.out _ is.bel).mono ?_; rintro r w5 ⟨v1, rfl, f1, b1⟩; replace is := is.below b1; obtain ⟨a1, m1, p1, hv1⟩ := f1.form; subst hv1; clear b1; replace f1 := hid1 f1)
      | (go_at_call 7; with_reducible refine (C7.out _ is.bel).mono ?_; rintro r w6 ⟨v2, rfl, f2, b1⟩; replace is := is.below b1; replace f1 := hid1 (f1.out.below b1); obtain ⟨a2, m2, p2, hv2⟩ := f2.form; subst hv2; clear b1; replace f2 := hid1 f2)
      | (go_at_call 5; with_reducible refine (same_o f1.out f2.out).mono ?_; rintro r w7 ⟨rfl, b1⟩; replace is := is.below b1; clear b1))
    go_wp2
    go_ret
    exact ⟨rfl, is.bel⟩
  | false =>
    go_upto_region 5 with (go_at_call 4; with_reducible refine (cA.out _ is.wt).mono ?_; rintro r w5 ⟨rfl, b⟩; replace is := is.below b; clear b)
    obtain ⟨x0, x1, x2, x3, x4, x5⟩ := is.cfg.cells
    go_upto_region 6 with (go_at_call 8; with_reducible refine (cF.out _).mono ?_; rintro r w6 ⟨⟨s', a', c', d', g', k', rfl, hs, ha, hc, hd, hg, hk⟩, b⟩; replace is := is.below b; clear x0 x1 x2 x3 x4 x5 b; obtain ⟨x0, x1, x2, x3, x4, x5⟩ := is.cfg.cells; have y0 := is.cfg.free 0; have y1 := is.cfg.free 1; have y2 := is.cfg.free 2; have y3 := is.cfg.free 3; have y4 := is.cfg.free 4; have y5 := is.cfg.free 5)
    have is3 : Lf w ((((((w6.setCell ⟨w.heap.size, 0, none⟩ (.int .i64 s')).setCell ⟨w.heap.size, 1, none⟩ (.int .i64 a')).setCell ⟨w.heap.size, 2, none⟩ (.int .i64 c')).setCell ⟨w.heap.size, 3, none⟩ (.int .i64 d')).setCell ⟨w.heap.size, 4, none⟩ (.int .i64 g')).setCell ⟨w.heap.size, 5, none⟩ (.int .i64 k')) s' a' c' d' g' k' :=
      ⟨cfg_stored6 is.cfg s' a' c' d' g' k', below_stored6 is.bel (Nat.le_refl w.heap.size) (.int .i64 s') (.int .i64 a') (.int .i64 c') (.int .i64 d') (.int .i64 g') (.int .i64 k'), wt_stored6 is.wt hw0 (.int .i64 s') (.int .i64 a') (.int .i64 c') (.int .i64 d') (.int .i64 g') (.int .i64 k')⟩
    clear x0 x1 x2 x3 x4 x5 y0 y1 y2 y3 y4 y5 is
    generalize ((((((w6.setCell ⟨w.heap.size, 0, none⟩ (.int .i64 s')).setCell ⟨w.heap.size, 1, none⟩ (.int .i64 a')).setCell ⟨w.heap.size, 2, none⟩ (.int .i64 c')).setCell ⟨w.heap.size, 3, none⟩ (.int .i64 d')).setCell ⟨w.heap.size, 4, none⟩ (.int .i64 g')).setCell ⟨w.heap.size, 5, none⟩ (.int .i64 k')) = w7 at *
    have hrt : rightB s' a' c' d' g' k' = true := rightB_iff.2 (by omega)
    obtain ⟨K, hK, rfl, rfl, rfl, rfl, rfl, rfl⟩ := Cf.of_right hrt
    clear hs ha hc hd hg hk hrt cF
    have HS := hid1 (fun (wr : World) (b : Below w.heap.size w wr) => sane_any (cap := cap1) (e := e) b1.out he (RdV.below HZ.out b))
    have HL := hid1 (fun (wr : World) (h : Lf w wr K.S K.a K.C K.D K.g K.k) (ad' : Option Addr) (m cap' : Nat) (Z' : Nat → Sv) (hz : RdV wr ad' m Z') (hm : m ≤ 21) => laid_any hK (cap := cap') (rcap := cap2) (vcap := cap3) hz (RdU.below HR.out h.bel) (RdU.below HV.out h.bel) (by omega) b2.out b3.out h.wt)
    have HB := hid1 (fun (wr : World) (hw : WT wr) (R : Nat) (X : List Nat) (hX : IsWords wr R X) (ft : Fitw K X) => both_any K.S K.a K.C K.D K.g K.k (cap := K.N) (e := e) (rdu_of hX ft.len ft.at) hw he)
    have is := is3.below (Below.refl _ _).drew
    clear is3 hK HZ
    obtain ⟨bc, hbc⟩ : ∃ bc, w.heap.size = bc := ⟨_, rfl⟩
    have HCc := hid1 (fun (wr : World) (h : Lf w wr K.S K.a K.C K.D K.g K.k) => (by have q := h.cfg.cells; rw [hbc] at q; exact q : wr.cell? ⟨bc, 0, none⟩ = some (.int .i64 (K.S : Nat)) ∧ wr.cell? ⟨bc, 1, none⟩ = some (.int .i64 K.a) ∧ wr.cell? ⟨bc, 2, none⟩ = some (.int .i64 (K.C : Nat)) ∧ wr.cell? ⟨bc, 3, none⟩ = some (.int .i64 (K.D : Nat)) ∧ wr.cell? ⟨bc, 4, none⟩ = some (.int .i64 K.g) ∧ wr.cell? ⟨bc, 5, none⟩ = some (.int .i64 K.k)))
    rw [hbc]
    unfold Cf.cs at *
    go_region_held (fun wr => wr.cell? ⟨bc, 0, none⟩ = some (.int .i64 (K.S : Nat)) ∧ wr.cell? ⟨bc, 1, none⟩ = some (.int .i64 K.a) ∧ wr.cell? ⟨bc, 2, none⟩ = some (.int .i64 (K.C : Nat)) ∧ wr.cell? ⟨bc, 3, none⟩ = some (.int .i64 (K.D : Nat)) ∧ wr.cell? ⟨bc, 4, none⟩ = some (.int .i64 K.g) ∧ wr.cell? ⟨bc, 5, none⟩ = some (.int .i64 K.k)) (with_reducible exact HCc.out _ is) (first
      | (go_at_call 10; with_reducible refine (HS.out _ is.bel).mono ?_; rintro r w8 ⟨a1, m1, p1, rfl, hm1, bb, Z1, hZ1⟩; replace is := is.below bb; clear bb; replace hZ1 := hid1 hZ1; replace hm1 := hid1 hm1)
      | (go_at_call 9; with_reducible refine (HL.out _ is _ _ _ _ hZ1.out hm1.out).mono ?_; rintro r w9 ⟨R, rfl, hR, ft, hR1, bb⟩; replace is := is.below bb; clear bb hZ1 hm1))
    obtain ⟨o, c6, c7⟩ := HB.out _ is.wt R _ hR ft
    have C6 := hid1 c6
    have C7 := hid1 c7
    clear c6 c7 HB HL HS hR ft hR1
    have bq := hid1 ((Below.refl w9.heap.size w9).drew)
    go_upto_region 7 with fail
    replace is := is.below (Below.refl _ _).drew
    go_region_held (fun wr => wr.cell? ⟨bc, 0, none⟩ = some (.int .i64 (K.S : Nat)) ∧ wr.cell? ⟨bc, 1, none⟩ = some (.int .i64 K.a) ∧ wr.cell? ⟨bc, 2, none⟩ = some (.int .i64 (K.C : Nat)) ∧ wr.cell? ⟨bc, 3, none⟩ = some (.int .i64 (K.D : Nat)) ∧ wr.cell? ⟨bc, 4, none⟩ = some (.int .i64 K.g) ∧ wr.cell? ⟨bc, 5, none⟩ = some (.int .i64 K.k)) (with_reducible exact HCc.out _ is) (first
      | (go_at_call 6; with_reducible refine (C6.out _ bq.out).mono ?_; rintro r w5 ⟨v1, rfl, f1, bb⟩; replace is := is.below bb; replace bq := hid1 (seq_below bq.out bb); obtain ⟨a1, m1, p1, hv1⟩ := f1.form; subst hv1; clear bb; replace f1 := hid1 f1)
      | (go_at_call 7; with_reducible refine (C7.out _ bq.out).mono ?_; rintro r w6 ⟨v2, rfl, f2, bb⟩; replace is := is.below bb; replace f1 := hid1 (f1.out.below bb); obtain ⟨a2, m2, p2, hv2⟩ := f2.form; subst hv2; clear bb; replace f2 := hid1 f2)
      | (go_at_call 5; with_reducible refine (same_o f1.out f2.out).mono ?_; rintro r w7 ⟨rfl, bb⟩; replace is := is.below bb; clear bb))
    go_wp2
    go_ret
    exact ⟨rfl, is.bel⟩
theorem law_row (s a c d g k : Int) (ad1 : Option Addr) (n1 cap1 : Nat) (Z : Nat → Sv) (ad2 : Option Addr) (n2 cap2 : Nat) (rr : Nat → Nat) (ad3 : Option Addr) (n3 cap3 : Nat) (vv : Nat → Nat) (e : Nat) (he : e < 18446744073709551616) (raw : Bool)
    (w : World) (hw : WT w) (hZ : RdV w ad1 n1 Z) (h1 : n1 ≤ maxLen) (hr : RdU w ad2 n2 rr) (h2 : n2 ≤ maxLen) (hv : RdU w ad3 n3 vv) (h3 : n3 ≤ maxLen) :
    Calls Tryz.prog 3 #[.agg (cs s a c d g k), .slice ad1 n1 cap1, .slice ad2 n2 cap2, .slice ad3 n3 cap3, .int .u64 (e : Nat), .bool raw] w fun r w' => r = .returned (.bool true) ∧ Below w.heap.size w w' :=
  law_any s a c d g k raw hw hZ hr hv (by unfold maxLen at h1; omega) (by unfold maxLen at h2; omega) (by unfold maxLen at h3; omega) he
end Go.Proofs.YtcioomopgdhlmaaGreatDoor
