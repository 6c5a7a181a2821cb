/- mark's goOnFinding. -/
import Derived.Test.YtcioomopgdhlmaaGreatDoorCKd
namespace Go.Proofs.YtcioomopgdhlmaaGreatDoor
open Go.RowKit
open Mm (IsMem MS touched Only IsWords)
open Hh (WT okW wordOf)

def Km.gf (s : Km) (K : Cf) (d : Sd) : Km :=
  if d.pc = 4 then (if d.gw = true ∧ (s.wn : Int) < K.k then { s with sd := d, wt := fun i => if i = s.wn then s.fnd else s.wt i, wn := s.wn + 1, pc := s.th } else { s with sd := d, pc := s.th }) else { s with sd := d }

theorem KmAt.pcs {w wr : World} {M G N P : Nat} {X : List Nat} {T : Int} {c : Array Value} {t : TypeId} {o : Nat} {K : Cf} {s : Km} (h : KmAt c o K s) (is : InA w wr M G N X T P c t) :
    wr.cell? ⟨P, o + 9, none⟩ = some (.int .i64 (s.pc : Nat)) ∧ wr.cell? ⟨P, o + 20, none⟩ = some (.int .i64 (s.th : Nat)) ∧ (∀ i, wr.frozen? ⟨P, i, none⟩ = false) := ⟨is.cell h.pc, is.cell h.th, is.free⟩

set_option maxHeartbeats 4000000 in
theorem kgf_as {w : World} {M G P o : Nat} {X' : List Nat} {T : Int} {c : Array Value} {t : TypeId} {K : Cf} {s : Km} {d : Sd} (hs : KmAt c o K s) (hw : s.wn ≤ 64) (hk : K.k ≤ 64)
    (c0 : Calls Tryz.prog 86 #[.pointer (some ⟨P, o + 14, none⟩), .pointer (some ⟨M, 0, none⟩)] w fun r w' => r = .returned (.bool (decide (d.pc = 4))) ∧ ∃ c', InA w w' M G K.N X' (T + 1) P c' t ∧ SdAt c' (o + 14) d ∧ Same c c' (o + 14) (o + 14 + 5)) :
    Calls Tryz.prog 68 #[.pointer (some ⟨P, o, none⟩), .pointer (some ⟨M, 0, none⟩)] w fun r w' => r = .returned (.tuple #[]) ∧ ∃ c', InA w w' M G K.N X' (T + 1) P c' t ∧ KmAt c' o K (s.gf K d) ∧ Same c c' o (o + 91) := by
  obtain ⟨fz, hfz⟩ : ∃ fz, s.gf K d = fz := ⟨_, rfl⟩
  rw [hfz]
  replace hfz := hid1 hfz
  have hput := fun c' (k : Same c c' (o + 14) (o + 14 + 5)) (hd : SdAt c' (o + 14) d) => hs.put_sd k hd
  have hsame : ∀ c', Same c c' (o + 14) (o + 14 + 5) → Same c c' o (o + 91) := fun c' k => ⟨k.size, fun i hi => k.out i (by omega)⟩
  clear hs
  have h85 : ∀ wr c', InA w wr M G K.N X' (T + 1) P c' t → KmAt c' o K { s with sd := d } → wr.cell? ⟨P, o + 85, none⟩ = some (.int .i64 (s.wn : Nat)) ∧ wr.cell? ⟨P, o + 2 + 5, none⟩ = some (.int .i64 K.k) ∧ wr.cell? ⟨P, o + 14, none⟩ = some (.bool d.gw) := fun wr c' x y => ⟨x.cell y.wn, x.cell y.k5, x.cell y.sd.gw⟩
  by_cases hp : d.pc = 4
  · have hd1 : decide (d.pc = 4) = true := decide_eq_true hp
    rw [hd1] at c0
    cases hg : d.gw
    · have e : fz = { s with sd := d, pc := s.th } := by rw [← hfz.out]; unfold Km.gf; rw [if_pos hp, if_neg (by rw [hg]; simp)]
      subst e
      rw [hg] at h85
      clear hfz hp hd1 hg
      go_enter Tryz.func68, Tryz.ntmps68
      go_upto_region 1 with (go_at_call 86; with_reducible refine c0.mono ?_; rintro e w1 ⟨rfl, c1, i1, a1, s1⟩)
      have n1 := hput _ s1 a1
      replace s1 := hsame _ s1
      obtain ⟨q1, q2, q3⟩ := h85 _ _ i1 n1
      clear a1 hput hsame c0 h85
      go_quiet (fail)
      replace i1 := i1.below (below_drewN (Below.refl _ w1) nq)
      clear q1 q2 q3
      generalize w1.drewN nq = w2 at *
      obtain ⟨l9, l20, f⟩ := n1.pcs i1
      have n2 := n1.put_pc s.th
      simp only at l9 l20
      go_wp2
      go_end0
      exact ⟨rfl, _, i1.set _ _, n2, s1.trans (Same.set _ _ (by omega))⟩
    · by_cases hn : (s.wn : Int) < K.k
      · have e : fz = { s with sd := d, wt := fun i => if i = s.wn then s.fnd else s.wt i, wn := s.wn + 1, pc := s.th } := by rw [← hfz.out]; unfold Km.gf; rw [if_pos hp, if_pos ⟨hg, hn⟩]
        subst e
        rw [hg] at h85
        have hw2 : s.wn < 64 := by omega
        have hn2 : decide ((s.wn : Int) < K.k) = true := decide_eq_true hn
        have e1 : IntKind.i64.wrap ((s.wn : Int) + 1) = ((s.wn + 1 : Nat) : Int) := by rw [IntKind.wrap_i64]; omega
        have hwi : (0 : Int) ≤ (s.wn : Int) ∧ (s.wn : Int) < 64 := by omega
        have hw3 : ((s.wn : Int)).toNat = s.wn := by omega
        clear hfz hp hd1 hg hk hw
        go_enter Tryz.func68, Tryz.ntmps68
        go_upto_region 1 with (go_at_call 86; with_reducible refine c0.mono ?_; rintro e w1 ⟨rfl, c1, i1, a1, s1⟩)
        have n1 := hput _ s1 a1
        replace s1 := hsame _ s1
        obtain ⟨q1, q2, q3⟩ := h85 _ _ i1 n1
        clear a1 hput hsame c0 h85
        go_quiet (fail)
        replace i1 := i1.below (below_drewN (Below.refl _ w1) nq)
        clear q1 q2 q3
        generalize w1.drewN nq = w2 at *
        have n2 := n1.put_wt hw2 s.fnd
        have n3 := n2.put_wn (s.wn + 1)
        have n4 := n3.put_pc s.th
        simp only at n2 n3 n4
        go_upto_region 2 with fail
        have hr1 : ∀ wr, InA w wr M G K.N X' (T + 1) P c1 t → wr.cell? ⟨P, o + 85, none⟩ = some (.int .i64 (s.wn : Nat)) ∧ wr.cell? ⟨P, o + 13, none⟩ = some (.int .i64 (s.fnd : Nat)) := fun wr x => ⟨x.cell n1.wn, x.cell n1.fnd⟩
        have hr2 : ∀ wr, InA w wr M G K.N X' (T + 1) P (c1.setIfInBounds (o + 21 + s.wn) (.int .i64 (s.fnd : Nat))) t → wr.cell? ⟨P, o + 85, none⟩ = some (.int .i64 (s.wn : Nat)) ∧ wr.cell? ⟨P, o + 13, none⟩ = some (.int .i64 (s.fnd : Nat)) := fun wr x => ⟨x.cell n2.wn, x.cell n2.fnd⟩
        have i0 := i1
        replace i1 := i1.drew
        have lw := i1.cell (n1.wt s.wn hw2)
        have fw := i1.free (o + 21 + s.wn)
        simp only at lw
        go_region_held (fun wr => wr.cell? ⟨P, o + 85, none⟩ = some (.int .i64 (s.wn : Nat)) ∧ wr.cell? ⟨P, o + 13, none⟩ = some (.int .i64 (s.fnd : Nat))) (first | (with_reducible exact hr1 _ i1) | (with_reducible exact hr2 _ (i0.set (o + 21 + s.wn) (.int .i64 (s.fnd : Nat))).drew)) (fail)
        clear i1 lw fw hr1 hr2
        have i2 := (i0.set (o + 21 + s.wn) (.int .i64 (s.fnd : Nat))).drew
        clear i0
        generalize World.drew _ = w3 at *
        have l85 := i2.cell n2.wn
        have f85 := i2.free (o + 85)
        simp only at l85
        have e5 : ((s.wn + 1 : Nat) : Int) = (s.wn : Int) + 1 := by omega
        rw [e5] at n3 n4
        replace i2 := i2.set (o + 85) (.int .i64 ((s.wn : Int) + 1))
        clear e5
        go_upto_region 4 with fail
        clear l85 f85
        generalize World.setCell _ _ _ = w4 at *
        obtain ⟨l9, l20, f⟩ := n3.pcs i2
        simp only at l9 l20
        go_wp2
        go_end0
        exact ⟨rfl, _, i2.set _ _, n4, ((s1.trans (Same.set _ _ (by omega))).trans (Same.set _ _ (by omega))).trans (Same.set _ _ (by omega))⟩
      · have e : fz = { s with sd := d, pc := s.th } := by rw [← hfz.out]; unfold Km.gf; rw [if_pos hp, if_neg (by intro h; exact hn h.2)]
        subst e
        rw [hg] at h85
        have hn2 : decide ((s.wn : Int) < K.k) = false := decide_eq_false hn
        clear hfz hp hd1 hg
        go_enter Tryz.func68, Tryz.ntmps68
        go_upto_region 1 with (go_at_call 86; with_reducible refine c0.mono ?_; rintro e w1 ⟨rfl, c1, i1, a1, s1⟩)
        have n1 := hput _ s1 a1
        replace s1 := hsame _ s1
        obtain ⟨q1, q2, q3⟩ := h85 _ _ i1 n1
        clear a1 hput hsame c0 h85
        go_quiet (fail)
        replace i1 := i1.below (below_drewN (Below.refl _ w1) nq)
        clear q1 q2 q3
        generalize w1.drewN nq = w2 at *
        obtain ⟨l9, l20, f⟩ := n1.pcs i1
        have n2 := n1.put_pc s.th
        simp only at l9 l20
        go_wp2
        go_end0
        exact ⟨rfl, _, i1.set _ _, n2, s1.trans (Same.set _ _ (by omega))⟩
  · have hd1 : decide (d.pc = 4) = false := decide_eq_false hp
    rw [hd1] at c0
    have e : fz = { s with sd := d } := by rw [← hfz.out]; unfold Km.gf; rw [if_neg hp]
    subst e
    clear hfz hp hd1 h85
    go_enter Tryz.func68, Tryz.ntmps68
    go_wp2_with (go_at_call 86; with_reducible refine c0.mono ?_; rintro e w1 ⟨rfl, c1, i1, a1, s1⟩)
    exact bodyPost_ret (results_none rfl _ _ _) rfl ⟨rfl, _, i1, hput _ s1 a1, hsame _ s1⟩
end Go.Proofs.YtcioomopgdhlmaaGreatDoor
/- mark's begin. -/
namespace Go.Proofs.YtcioomopgdhlmaaGreatDoor
open Go.RowKit
open Mm (IsMem MS touched Only IsWords)
open Hh (WT okW wordOf IsHd)

def Km.bg (s : Km) (K : Cf) (x W : Nat) : Bool × Km :=
  if grayW W = true then (if knW W = 1 then (true, { s with sl := x, hd := W, fi := 0, fs := K.fl (arW W), pc := if 0 < K.fl (arW W) then 6 else 11 }) else if knW W = 2 then (true, { s with sl := x, hd := W, pc := 7 }) else (false, { s with sl := x, hd := W })) else (false, { s with sl := x, hd := W })

/-- A header in a block beside. -/
structure InB (w wr : World) (M G N : Nat) (X : List Nat) (T : Int) (P : Nat) (c : Array Value) (t : TypeId) (H : Nat) (k m : Int) (g : Bool) (a n q : Int) : Prop where
  i : InA w wr M G N X T P c t
  h : IsHd wr H k m g a n q
  ne : P ≠ H
theorem InB.below {w wr w' : World} {M G N P H : Nat} {X : List Nat} {T : Int} {c : Array Value} {t : TypeId} {k m : Int} {g : Bool} {a n q : Int} (h : InB w wr M G N X T P c t H k m g a n q) (b : Below wr.heap.size wr w') : InB w w' M G N X T P c t H k m g a n q := ⟨h.i.below b, h.h.below b, h.ne⟩
theorem InB.drew {w wr : World} {M G N P H : Nat} {X : List Nat} {T : Int} {c : Array Value} {t : TypeId} {k m : Int} {g : Bool} {a n q : Int} (h : InB w wr M G N X T P c t H k m g a n q) : InB w wr.drew M G N X T P c t H k m g a n q := h.below (Below.refl _ _).drew
theorem InB.set {w wr : World} {M G N P H : Nat} {X : List Nat} {T : Int} {c : Array Value} {t : TypeId} {k m : Int} {g : Bool} {a n q : Int} (h : InB w wr M G N X T P c t H k m g a n q) (i : Nat) (v : Value) : InB w (wr.setCell ⟨P, i, none⟩ v) M G N X T P (c.setIfInBounds i v) t H k m g a n q :=
  ⟨h.i.set i v, ((Chg.refl [P] wr).setCell (by simp) v).at h.h (by have := h.ne; simp; omega), h.ne⟩
theorem gray_ok {W : Nat} (h : grayW W = true) : okW W = true := by unfold grayW at h; simp at h; exact h.1
set_option maxHeartbeats 8000000 in
theorem kbegin_as {w : World} {M G P o : Nat} {X : List Nat} {T : Int} {c : Array Value} {t : TypeId} {K : Cf} {s : Km} (hK : K.Ok) (is : InA w w M G K.N X T P c t) (hs : KmAt c o K s) {x : Nat} (hx : x < K.S) (hT : T + 1 < 4611686018427387904) {W : Nat} (hW : X.getD (K.hd x) 0 = W) :
    Calls Tryz.prog 102 #[.pointer (some ⟨P, o, none⟩), .pointer (some ⟨M, 0, none⟩), .int .i64 (x : Nat)] w fun r w' => r = .returned (.bool (s.bg K x W).1) ∧ ∃ c', InA w w' M G K.N X (T + 1) P c' t ∧ KmAt c' o K (s.bg K x W).2 ∧ Same c c' o (o + 91) := by
  have hlt := is.mem.fits (K.hd x)
  rw [hW] at hlt
  have c0 := fun c => ldA (w := w) (M := M) (G := G) (P := P) (T := T) (c := c) (t := t) (K.hd_lt hx) hW hT
  have c1 := fun w => header_at hK hx rfl w
  have c2 := fun w hw => unp_any hlt w hw
  have har := arW_lt W
  have c3 := fun w => fields_any hK har w
  have n1 := hs.put_sl x
  have n2 := n1.put_hd W
  have n3 := n2.put_fi 0
  have n4 := n3.put_fs (K.fl (arW W))
  simp only at n2 n3 n4
  have s2 : Same c ((c.setIfInBounds (o + 87) (.int .i64 (x : Nat))).setIfInBounds (o + 88) (.int .u64 (W : Nat))) o (o + 91) := (Same.set _ _ (by omega)).trans (Same.set _ _ (by omega))
  obtain ⟨fz, hfz⟩ : ∃ fz, s.bg K x W = fz := ⟨_, rfl⟩
  rw [hfz]
  replace hfz := hid1 hfz
  have l87 := is.cell hs.sl
  have f87 := is.free (o + 87)
  replace is := is.set (o + 87) (.int .i64 (x : Nat))
  have hr : ∀ wr T, InA w wr M G K.N X T P (c.setIfInBounds (o + 87) (.int .i64 (x : Nat))) t → wr.cell? ⟨P, o + 2, none⟩ = some (.int .i64 (K.S : Nat)) ∧ wr.cell? ⟨P, o + 2 + 1, none⟩ = some (.int .i64 K.a) ∧ wr.cell? ⟨P, o + 2 + 2, none⟩ = some (.int .i64 (K.C : Nat)) ∧ wr.cell? ⟨P, o + 2 + 3, none⟩ = some (.int .i64 (K.D : Nat)) ∧ wr.cell? ⟨P, o + 2 + 4, none⟩ = some (.int .i64 K.g) ∧ wr.cell? ⟨P, o + 2 + 5, none⟩ = some (.int .i64 K.k) ∧ wr.cell? ⟨P, o + 88, none⟩ = some (.int .u64 (s.hd : Nat)) ∧ wr.frozen? ⟨P, o + 88, none⟩ = false := fun wr T x => ⟨x.cell n1.k0, x.cell n1.k1, x.cell n1.k2, x.cell n1.k3, x.cell n1.k4, x.cell n1.k5, x.cell n1.hd, x.free _⟩
  unfold Cf.cs at *
  generalize K.hd x = L at *
  have hgk := @gray_ok W
  clear hW hs hlt hx hK
  go_enter Tryz.func102, Tryz.ntmps102
  go_upto_region 2 with fail
  clear l87 f87
  generalize World.setCell _ _ _ = w1 at *
  obtain ⟨k0, k1, k2, k3, k4, k5, l88, f88⟩ := hr _ _ is
  go_upto_region 3 with (first
    | (go_at_call 19; with_reducible refine (c1 _).mono ?_; rintro e w3 ⟨rfl, b⟩; replace is := is.below b)
    | (go_at_call 63; with_reducible refine (c0 _ _ is).mono ?_; rintro e w4 ⟨rfl, i1⟩; clear is k0 k1 k2 k3 k4 k5 l88 f88; obtain ⟨k0, k1, k2, k3, k4, k5, l88, f88⟩ := hr _ _ i1))
  replace i1 := i1.set (o + 88) (.int .u64 (W : Nat))
  clear k0 k1 k2 k3 k4 k5 l88 f88 hr c0 c1
  generalize World.setCell _ _ _ = w5 at *
  have l88 := i1.cell n2.hd
  have c2' := c2 w5 i1.wt
  clear c2
  go_upto_region 4 with (first
    | (go_at_call 50; with_reducible refine c2'.mono ?_; rintro e w6 ⟨⟨m, n, q, rfl⟩, b⟩; replace i1 := i1.below b))
  have hA : P ≠ w6.heap.size := by have := lt_of_block i1.blk; omega
  have hh : InB w _ M G K.N X (T + 1) P _ t w6.heap.size (knW W : Nat) m (grayW W) (arW W : Nat) n q := ⟨i1.below (alloc_below w6 (.cells #[.int .i64 (knW W : Nat), .int .i64 m, .bool (grayW W), .int .i64 (arW W : Nat), .int .i64 n, .int .i64 q] 57)), Hh.hd_new w6 (knW W : Nat) m (grayW W) (arW W : Nat) n q, hA⟩
  clear l88 c2' b i1 hA
  generalize w6.heap.size = H at *
  generalize World.alloc _ _ = w7 at *
  obtain ⟨h0, _, h2, h3, _, _⟩ := hh.h.cells
  cases hg : grayW W
  · obtain rfl : fz = (false, { s with sl := x, hd := W }) := by rw [← hfz.out]; unfold Km.bg; rw [if_neg (by rw [hg]; simp)]
    rw [hg] at h2 hh
    clear hfz hgk c3 n3 n4
    cases hok : okW W
    · go_wp2
      go_ret
      exact ⟨rfl, _, hh.i, n2, s2⟩
    · go_wp2
      go_ret
      exact ⟨rfl, _, hh.i, n2, s2⟩
  · have hok := hgk hg
    rw [hg] at h2 hh
    rw [hok]
    clear hgk
    by_cases k1 : knW W = 1
    · have hfz2 : fz = (true, { s with sl := x, hd := W, fi := 0, fs := K.fl (arW W), pc := if 0 < K.fl (arW W) then 6 else 11 }) := by rw [← hfz.out]; unfold Km.bg; rw [if_pos hg, if_pos k1]
      replace hfz2 := hid1 hfz2
      rw [k1] at h0 hh
      rw [show ((1 : Nat) : Int) = 1 from rfl] at h0 hh
      clear hfz hg hok
      have hr : ∀ wr, InB w wr M G K.N X (T + 1) P ((c.setIfInBounds (o + 87) (.int .i64 (x : Nat))).setIfInBounds (o + 88) (.int .u64 (W : Nat))) t H 1 m true (arW W : Nat) n q → wr.cell? ⟨P, o + 2, none⟩ = some (.int .i64 (K.S : Nat)) ∧ wr.cell? ⟨P, o + 2 + 1, none⟩ = some (.int .i64 K.a) ∧ wr.cell? ⟨P, o + 2 + 2, none⟩ = some (.int .i64 (K.C : Nat)) ∧ wr.cell? ⟨P, o + 2 + 3, none⟩ = some (.int .i64 (K.D : Nat)) ∧ wr.cell? ⟨P, o + 2 + 4, none⟩ = some (.int .i64 K.g) ∧ wr.cell? ⟨P, o + 2 + 5, none⟩ = some (.int .i64 K.k) ∧ wr.cell? ⟨H, 3, none⟩ = some (.int .i64 (arW W : Nat)) := fun wr x => ⟨x.i.cell n2.k0, x.i.cell n2.k1, x.i.cell n2.k2, x.i.cell n2.k3, x.i.cell n2.k4, x.i.cell n2.k5, x.h.cells.2.2.2.1⟩
      have hr3 : ∀ wr, InB w wr M G K.N X (T + 1) P (((c.setIfInBounds (o + 87) (.int .i64 (x : Nat))).setIfInBounds (o + 88) (.int .u64 (W : Nat))).setIfInBounds (o + 89) (.int .i64 0)) t H 1 m true (arW W : Nat) n q → wr.cell? ⟨P, o + 2, none⟩ = some (.int .i64 (K.S : Nat)) ∧ wr.cell? ⟨P, o + 2 + 1, none⟩ = some (.int .i64 K.a) ∧ wr.cell? ⟨P, o + 2 + 2, none⟩ = some (.int .i64 (K.C : Nat)) ∧ wr.cell? ⟨P, o + 2 + 3, none⟩ = some (.int .i64 (K.D : Nat)) ∧ wr.cell? ⟨P, o + 2 + 4, none⟩ = some (.int .i64 K.g) ∧ wr.cell? ⟨P, o + 2 + 5, none⟩ = some (.int .i64 K.k) ∧ wr.cell? ⟨H, 3, none⟩ = some (.int .i64 (arW W : Nat)) := fun wr x => ⟨x.i.cell n3.k0, x.i.cell n3.k1, x.i.cell n3.k2, x.i.cell n3.k3, x.i.cell n3.k4, x.i.cell n3.k5, x.h.cells.2.2.2.1⟩
      have hr4 : ∀ wr, InB w wr M G K.N X (T + 1) P ((((c.setIfInBounds (o + 87) (.int .i64 (x : Nat))).setIfInBounds (o + 88) (.int .u64 (W : Nat))).setIfInBounds (o + 89) (.int .i64 0)).setIfInBounds (o + 90) (.int .i64 (K.fl (arW W) : Nat))) t H 1 m true (arW W : Nat) n q → wr.cell? ⟨P, o + 2, none⟩ = some (.int .i64 (K.S : Nat)) ∧ wr.cell? ⟨P, o + 2 + 1, none⟩ = some (.int .i64 K.a) ∧ wr.cell? ⟨P, o + 2 + 2, none⟩ = some (.int .i64 (K.C : Nat)) ∧ wr.cell? ⟨P, o + 2 + 3, none⟩ = some (.int .i64 (K.D : Nat)) ∧ wr.cell? ⟨P, o + 2 + 4, none⟩ = some (.int .i64 K.g) ∧ wr.cell? ⟨P, o + 2 + 5, none⟩ = some (.int .i64 K.k) ∧ wr.cell? ⟨H, 3, none⟩ = some (.int .i64 (arW W : Nat)) := fun wr x => ⟨x.i.cell n4.k0, x.i.cell n4.k1, x.i.cell n4.k2, x.i.cell n4.k3, x.i.cell n4.k4, x.i.cell n4.k5, x.h.cells.2.2.2.1⟩
      have hl : ∀ wr, InB w wr M G K.N X (T + 1) P ((c.setIfInBounds (o + 87) (.int .i64 (x : Nat))).setIfInBounds (o + 88) (.int .u64 (W : Nat))) t H 1 m true (arW W : Nat) n q → wr.cell? ⟨P, o + 89, none⟩ = some (.int .i64 (s.fi : Nat)) ∧ wr.cell? ⟨P, o + 90, none⟩ = some (.int .i64 (s.fs : Nat)) ∧ ∀ i, wr.frozen? ⟨P, i, none⟩ = false := fun wr x => ⟨x.i.cell n2.fi, x.i.cell n2.fs, x.i.free⟩
      obtain ⟨F, hF⟩ : ∃ F, K.fl (arW W) = F := ⟨_, rfl⟩
      have n5 := n4.put_pc (if 0 < K.fl (arW W) then 6 else 11)
      simp only [hF] at c3 n4 n5 hr4
      obtain ⟨q9, hq9⟩ : ∃ q9, (if 0 < F then 6 else 11 : Nat) = q9 := ⟨_, rfl⟩
      rw [hq9] at n5
      rw [show ((0 : Nat) : Int) = 0 from rfl] at n4 n5
      replace hF := hid1 hF
      have cnf : ∀ wr c', InA w wr M G K.N X (T + 1) P c' t → KmAt c' o K { s with sl := x, hd := W, fi := 0, fs := F } → Calls Tryz.prog 90 #[.pointer (some ⟨P, o, none⟩)] wr fun r w' => r = .returned (.int .i64 (q9 : Nat)) ∧ InA w w' M G K.N X (T + 1) P c' t := fun wr c' x y => (knf_as x.restart y).mono fun r w' ⟨h1, h2⟩ => ⟨by rw [h1, ← hq9]; rfl, x.join h2⟩
      replace hq9 := hid1 hq9
      have h9 : ∀ wr c', InA w wr M G K.N X (T + 1) P c' t → KmAt c' o K { s with sl := x, hd := W, fi := 0, fs := F } → wr.cell? ⟨P, o + 9, none⟩ = some (.int .i64 (s.pc : Nat)) ∧ wr.frozen? ⟨P, o + 9, none⟩ = false := fun wr c' x y => ⟨x.cell y.pc, x.free _⟩
      go_upto_region 9 with fail
      clear h0 h2 h3
      replace hh := hh.drew
      obtain ⟨l89, l90, ff⟩ := hl _ hh
      go_region_held (fun wr => wr.cell? ⟨P, o + 2, none⟩ = some (.int .i64 (K.S : Nat)) ∧ wr.cell? ⟨P, o + 2 + 1, none⟩ = some (.int .i64 K.a) ∧ wr.cell? ⟨P, o + 2 + 2, none⟩ = some (.int .i64 (K.C : Nat)) ∧ wr.cell? ⟨P, o + 2 + 3, none⟩ = some (.int .i64 (K.D : Nat)) ∧ wr.cell? ⟨P, o + 2 + 4, none⟩ = some (.int .i64 K.g) ∧ wr.cell? ⟨P, o + 2 + 5, none⟩ = some (.int .i64 K.k) ∧ wr.cell? ⟨H, 3, none⟩ = some (.int .i64 (arW W : Nat))) (first | (with_reducible exact hr _ hh) | (with_reducible exact hr3 _ (hh.set (o + 89) (.int .i64 0))) | (with_reducible exact hr4 _ ((hh.set (o + 89) (.int .i64 0)).set (o + 90) (.int .i64 (F : Nat))))) (first
        | (go_at_call 61; with_reducible refine (c3 _).mono ?_; rintro e w8 ⟨rfl, b⟩; replace hh := hh.below b; clear l89 l90 ff; obtain ⟨l89, l90, ff⟩ := hl _ hh))
      have i9 := ((hh.set (o + 89) (.int .i64 0)).set (o + 90) (.int .i64 (F : Nat))).i
      clear hh l89 l90 ff hr hr3 hr4 hl c3
      go_upto_region 10 with fail
      generalize World.setCell _ _ _ = w9 at *
      have cc := cnf _ _ i9 n4
      go_wp2_with (go_at_call 90; with_reducible refine cc.mono ?_; rintro e w10 ⟨rfl, i10⟩; obtain ⟨l9, f9⟩ := h9 _ _ i10 n4)
      go_ret
      rw [hfz2.out, hF.out, hq9.out]
      exact ⟨rfl, _, i10.set _ _, n5, (s2.trans ((Same.set _ _ (by omega)).trans (Same.set _ _ (by omega)))).trans (Same.set _ _ (by omega))⟩
    · by_cases k2 : knW W = 2
      · obtain rfl : fz = (true, { s with sl := x, hd := W, pc := 7 }) := by rw [← hfz.out]; unfold Km.bg; rw [if_pos hg, if_neg k1, if_pos k2]
        rw [k2] at h0 hh
        rw [show ((2 : Nat) : Int) = 2 from rfl] at h0 hh
        have n5 := n2.put_pc 7
        simp only at n5
        have l9 := hh.i.cell n2.pc
        have f9 := hh.i.free (o + 9)
        clear hfz hg hok c3 n3 n4
        go_wp2
        go_ret
        exact ⟨rfl, _, hh.i.set _ _, n5, s2.trans (Same.set _ _ (by omega))⟩
      · obtain rfl : fz = (false, { s with sl := x, hd := W }) := by rw [← hfz.out]; unfold Km.bg; rw [if_pos hg, if_neg k1, if_neg k2]
        have k1' : (((knW W : Nat) : Int) == 1) = false := by simp; omega
        have k2' : (((knW W : Nat) : Int) == 2) = false := by simp; omega
        clear hfz hg hok c3 n3 n4
        go_wp2
        go_ret
        exact ⟨rfl, _, hh.i, n2, s2⟩
end Go.Proofs.YtcioomopgdhlmaaGreatDoor
/- mark's loadSlot, loadOlder, blacken. -/
namespace Go.Proofs.YtcioomopgdhlmaaGreatDoor
open Go.RowKit
open Mm (IsMem MS touched Only IsWords)
open Hh (WT okW wordOf IsHd)

theorem kfind_in {w wr : World} {M G P o : Nat} {X : List Nat} {T : Int} {c : Array Value} {t : TypeId} {K : Cf} {s : Km} (hK : K.Ok) (x : InA w wr M G K.N X T P c t) (hs : KmAt c o K s) (y : Int) (q : Nat) :
    Calls Tryz.prog 66 #[.pointer (some ⟨P, o, none⟩), .int .i64 y, .int .i64 (q : Nat)] wr fun r w' => r = .returned (.tuple #[]) ∧ ∃ c', InA w w' M G K.N X T P c' t ∧ KmAt c' o K (s.find K y q) ∧ Same c c' o (o + 91) :=
  (kfind_any hK x.restart hs y q).mono fun _ _ ⟨h1, c'', h2, h3, h4⟩ => ⟨h1, c'', x.join h2, h3, h4⟩
theorem kbegin_in {w wr : World} {M G P o : Nat} {X : List Nat} {T : Int} {c : Array Value} {t : TypeId} {K : Cf} {s : Km} (hK : K.Ok) (x : InA w wr M G K.N X T P c t) (hs : KmAt c o K s) {y : Nat} (hy : y < K.S) (hT : T + 1 < 4611686018427387904) {W : Nat} (hW : X.getD (K.hd y) 0 = W) :
    Calls Tryz.prog 102 #[.pointer (some ⟨P, o, none⟩), .pointer (some ⟨M, 0, none⟩), .int .i64 (y : Nat)] wr fun r w' => r = .returned (.bool (s.bg K y W).1) ∧ ∃ c', InA w w' M G K.N X (T + 1) P c' t ∧ KmAt c' o K (s.bg K y W).2 ∧ Same c c' o (o + 91) :=
  (kbegin_as hK x.restart hs hy hT hW).mono fun _ _ ⟨h1, c'', h2, h3, h4⟩ => ⟨h1, c'', x.join h2, h3, h4⟩
theorem kns_in {w wr : World} {M G P o : Nat} {X : List Nat} {T : Int} {c : Array Value} {t : TypeId} {K : Cf} {s : Km} (x : InA w wr M G K.N X T P c t) (hs : KmAt c o K s) :
    Calls Tryz.prog 103 #[.pointer (some ⟨P, o, none⟩)] wr fun r w' => r = .returned (.int .i64 (s.ns K : Nat)) ∧ InA w w' M G K.N X T P c t :=
  (kns_as x.restart hs).mono fun _ _ ⟨h1, h2⟩ => ⟨h1, x.join h2⟩
theorem knw_in {w wr : World} {M G P o : Nat} {X : List Nat} {T : Int} {c : Array Value} {t : TypeId} {K : Cf} {s : Km} (x : InA w wr M G K.N X T P c t) (hs : KmAt c o K s) :
    Calls Tryz.prog 95 #[.pointer (some ⟨P, o, none⟩)] wr fun r w' => r = .returned (.int .i64 (s.nw K : Nat)) ∧ InA w w' M G K.N X T P c t :=
  (knw_as x.restart hs).mono fun _ _ ⟨h1, h2⟩ => ⟨h1, x.join h2⟩
theorem knf_in {w wr : World} {M G P o : Nat} {X : List Nat} {T : Int} {c : Array Value} {t : TypeId} {K : Cf} {s : Km} (x : InA w wr M G K.N X T P c t) (hs : KmAt c o K s) :
    Calls Tryz.prog 90 #[.pointer (some ⟨P, o, none⟩)] wr fun r w' => r = .returned (.int .i64 (s.nf : Nat)) ∧ InA w w' M G K.N X T P c t :=
  (knf_as x.restart hs).mono fun _ _ ⟨h1, h2⟩ => ⟨h1, x.join h2⟩
theorem kload_in {w wr : World} {M G P o : Nat} {X : List Nat} {T : Int} {c : Array Value} {t : TypeId} {K : Cf} {s : Km} (hK : K.Ok) (x : InA w wr M G K.N X T P c t) (hs : KmAt c o K s) (hl : s.sl < K.S) {i : Nat} (hi : i < K.B) (hT : T + 1 < 4611686018427387904) {v : Nat} (hv : X.getD (K.bd s.sl i) 0 = v) :
    Calls Tryz.prog 89 #[.pointer (some ⟨P, o, none⟩), .pointer (some ⟨M, 0, none⟩), .int .i64 (i : Nat)] wr fun r w' => r = .returned (.int .u64 (v : Nat)) ∧ InA w w' M G K.N X (T + 1) P c t :=
  (kload_as hK x.restart hs hl hi hT hv).mono fun _ _ ⟨h1, h2⟩ => ⟨h1, x.join h2⟩
theorem kcl_in {w wr : World} {M G P o : Nat} {X : List Nat} {T : Int} {c : Array Value} {t : TypeId} {K : Cf} {s : Km} (x : InA w wr M G K.N X T P c t) (hs : KmAt c o K s) (hl : s.who < 64) (a b : Nat) :
    Calls Tryz.prog 67 #[.pointer (some ⟨P, o, none⟩), .int .i64 (a : Nat), .int .i64 (b : Nat)] wr fun r w' => r = .returned (.int .i64 ((s.cl K a b).1 : Nat)) ∧ ∃ c', InA w w' M G K.N X T P c' t ∧ KmAt c' o K (s.cl K a b).2 ∧ Same c c' o (o + 91) :=
  (kcl_as x.restart hs hl a b).mono fun _ _ ⟨h1, c'', h2, h3, h4⟩ => ⟨h1, c'', x.join h2, h3, h4⟩
def Km.orN (p : Bool × Km) (q : Nat) : Km := if p.1 = true then p.2 else { p.2 with pc := q }
def Km.lsl (s : Km) (K : Cf) (W : Nat) : Km := Km.orN (({ s with nx := s.nx + 1 } : Km).bg K s.nx W) ((({ s with nx := s.nx + 1 } : Km).bg K s.nx W).2.ns K)
set_option maxHeartbeats 4000000 in
theorem kslot_as {w : World} {M G P o : Nat} {X : List Nat} {T : Int} {c : Array Value} {t : TypeId} {K : Cf} {s : Km} (hK : K.Ok) (is : InA w w M G K.N X T P c t) (hs : KmAt c o K s) (hx : s.nx < K.S) (hT : T + 1 < 4611686018427387904) :
    Calls Tryz.prog 87 #[.pointer (some ⟨P, o, none⟩), .pointer (some ⟨M, 0, none⟩)] w fun r w' => r = .returned (.tuple #[]) ∧ ∃ c', InA w w' M G K.N X (T + 1) P c' t ∧ KmAt c' o K (s.lsl K (X.getD (K.hd s.nx) 0)) ∧ Same c c' o (o + 91) := by
  have n1 := hs.put_nx (s.nx + 1)
  have h64 := hK.s64
  have e1 : IntKind.i64.wrap ((s.nx : Int) + 1) = (s.nx : Int) + 1 := by rw [IntKind.wrap_i64]; omega
  have e5 : ((s.nx + 1 : Nat) : Int) = (s.nx : Int) + 1 := by omega
  rw [e5] at n1
  have s1 : Same c (c.setIfInBounds (o + 86) (.int .i64 ((s.nx : Int) + 1))) o (o + 91) := Same.set _ _ (by omega)
  have c65 := fun wr (x : InA w wr M G K.N X T P (c.setIfInBounds (o + 86) (.int .i64 ((s.nx : Int) + 1))) t) => kbegin_in hK x n1 hx hT rfl
  unfold Km.lsl
  generalize ({ s with nx := s.nx + 1 } : Km).bg K s.nx (X.getD (K.hd s.nx) 0) = p at *
  obtain ⟨b, p⟩ := p
  have c66 : ∀ wr c', InA w wr M G K.N X (T + 1) P c' t → KmAt c' o K p → Calls Tryz.prog 103 #[.pointer (some ⟨P, o, none⟩)] wr fun r w' => r = .returned (.int .i64 (p.ns K : Nat)) ∧ InA w w' M G K.N X (T + 1) P c' t := fun wr c' x y => (kns_as x.restart y).mono fun _ _ ⟨h1, h2⟩ => ⟨h1, x.join h2⟩
  have h9 : ∀ wr c', InA w wr M G K.N X (T + 1) P c' t → KmAt c' o K p → wr.cell? ⟨P, o + 9, none⟩ = some (.int .i64 (p.pc : Nat)) ∧ wr.frozen? ⟨P, o + 9, none⟩ = false := fun wr c' x y => ⟨x.cell y.pc, x.free _⟩
  have hq : ∀ c', KmAt c' o K p → KmAt (c'.setIfInBounds (o + 9) (.int .i64 (p.ns K : Nat))) o K { p with pc := p.ns K } := fun c' y => y.put_pc _
  have l86 := is.cell hs.nx
  have f86 := is.free (o + 86)
  replace is := is.set (o + 86) (.int .i64 ((s.nx : Int) + 1))
  clear hs hx n1 e5 h64 hK
  simp only at *
  generalize p.ns K = q at *
  cases b
  · show Calls _ _ _ _ fun r w' => r = .returned (.tuple #[]) ∧ ∃ c', InA w w' M G K.N X (T + 1) P c' t ∧ KmAt c' o K { p with pc := q } ∧ Same c c' o (o + 91)
    go_enter Tryz.func87, Tryz.ntmps87
    go_upto_region 2 with fail
    clear l86 f86 e1
    generalize World.setCell _ _ _ = w1 at *
    have cc := c65 _ is
    clear c65
    go_wp2_with (first
      | (go_at_call 102; with_reducible refine cc.mono ?_; rintro e w3 ⟨rfl, c3, i3, n3, s3⟩; have cd := c66 _ _ i3 n3)
      | (go_at_call 103; with_reducible refine cd.mono ?_; rintro e w4 ⟨rfl, i4⟩; obtain ⟨l9, f9⟩ := h9 _ _ i4 n3))
    go_end0
    exact ⟨rfl, _, i4.set _ _, hq _ n3, (s1.trans s3).trans (Same.set _ _ (by omega))⟩
  · show Calls _ _ _ _ fun r w' => r = .returned (.tuple #[]) ∧ ∃ c', InA w w' M G K.N X (T + 1) P c' t ∧ KmAt c' o K p ∧ Same c c' o (o + 91)
    go_enter Tryz.func87, Tryz.ntmps87
    go_upto_region 2 with fail
    clear l86 f86 e1
    generalize World.setCell _ _ _ = w1 at *
    have cc := c65 _ is
    clear c65
    go_wp2_with (first
      | (go_at_call 102; with_reducible refine cc.mono ?_; rintro e w3 ⟨rfl, c3, i3, n3, s3⟩))
    go_end0
    exact ⟨rfl, _, i3, n3, s1.trans s3⟩

end Go.Proofs.YtcioomopgdhlmaaGreatDoor
