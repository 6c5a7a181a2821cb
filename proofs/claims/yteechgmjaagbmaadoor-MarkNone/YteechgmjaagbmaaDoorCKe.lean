/- mark's goOnFinding. -/
import Derived.Test.YteechgmjaagbmaaDoorCKd
namespace Go.Proofs.YteechgmjaagbmaaDoor
open Go.RowKit
open Mm (IsMem MS touched Only IsWords)
open Hh (WT okW wordOf)

def Km.gf (s : Km) (K : Cf) (d : Sd) : Km :=
  if d.pc = 4 then (if d.gw = true ∧ (s.wn : Int) < K.k then { s with sd := d, wt := fun i => if i = s.wn then s.fnd else s.wt i, wn := s.wn + 1, pc := s.th } else { s with sd := d, pc := s.th }) else { s with sd := d }

theorem KmAt.pcs {w wr : World} {M G N P : Nat} {X : List Nat} {T : Int} {c : Array Value} {t : TypeId} {o : Nat} {K : Cf} {s : Km} (h : KmAt c o K s) (is : InA w wr M G N X T P c t) :
    wr.cell? ⟨P, o + 9, none⟩ = some (.int .i64 (s.pc : Nat)) ∧ wr.cell? ⟨P, o + 20, none⟩ = some (.int .i64 (s.th : Nat)) ∧ (∀ i, wr.frozen? ⟨P, i, none⟩ = false) := ⟨is.cell h.pc, is.cell h.th, is.free⟩

set_option maxHeartbeats 4000000 in
theorem kgf_as {w : World} {M G P o : Nat} {X' : List Nat} {T : Int} {c : Array Value} {t : TypeId} {K : Cf} {s : Km} {d : Sd} (hs : KmAt c o K s) (hw : s.wn ≤ 64) (hk : K.k ≤ 64)
    (c0 : Calls Tryd.prog 34 #[.pointer (some ⟨P, o + 14, none⟩), .pointer (some ⟨M, 0, none⟩)] w fun r w' => r = .returned (.bool (decide (d.pc = 4))) ∧ ∃ c', InA w w' M G K.N X' (T + 1) P c' t ∧ SdAt c' (o + 14) d ∧ Same c c' (o + 14) (o + 14 + 5)) :
    Calls Tryd.prog 16 #[.pointer (some ⟨P, o, none⟩), .pointer (some ⟨M, 0, none⟩)] w fun r w' => r = .returned (.tuple #[]) ∧ ∃ c', InA w w' M G K.N X' (T + 1) P c' t ∧ KmAt c' o K (s.gf K d) ∧ Same c c' o (o + 91) := by
  obtain ⟨fz, hfz⟩ : ∃ fz, s.gf K d = fz := ⟨_, rfl⟩
  rw [hfz]
  replace hfz := hid1 hfz
  have hput := fun c' (k : Same c c' (o + 14) (o + 14 + 5)) (hd : SdAt c' (o + 14) d) => hs.put_sd k hd
  have hsame : ∀ c', Same c c' (o + 14) (o + 14 + 5) → Same c c' o (o + 91) := fun c' k => ⟨k.size, fun i hi => k.out i (by omega)⟩
  clear hs
  have h85 : ∀ wr c', InA w wr M G K.N X' (T + 1) P c' t → KmAt c' o K { s with sd := d } → wr.cell? ⟨P, o + 85, none⟩ = some (.int .i64 (s.wn : Nat)) ∧ wr.cell? ⟨P, o + 2 + 5, none⟩ = some (.int .i64 K.k) ∧ wr.cell? ⟨P, o + 14, none⟩ = some (.bool d.gw) := fun wr c' x y => ⟨x.cell y.wn, x.cell y.k5, x.cell y.sd.gw⟩
  by_cases hp : d.pc = 4
  · have hd1 : decide (d.pc = 4) = true := decide_eq_true hp
    rw [hd1] at c0
    cases hg : d.gw
    · have e : fz = { s with sd := d, pc := s.th } := by rw [← hfz.out]; unfold Km.gf; rw [if_pos hp, if_neg (by rw [hg]; simp)]
      subst e
      rw [hg] at h85
      clear hfz hp hd1 hg
      go_enter Tryd.func16, Tryd.ntmps16
      go_upto_region 1 with (go_at_call 34; with_reducible refine c0.mono ?_; rintro e w1 ⟨rfl, c1, i1, a1, s1⟩)
      have n1 := hput _ s1 a1
      replace s1 := hsame _ s1
      obtain ⟨q1, q2, q3⟩ := h85 _ _ i1 n1
      clear a1 hput hsame c0 h85
      go_quiet (fail)
      replace i1 := i1.below (below_drewN (Below.refl _ w1) nq)
      clear q1 q2 q3
      generalize w1.drewN nq = w2 at *
      obtain ⟨l9, l20, f⟩ := n1.pcs i1
      have n2 := n1.put_pc s.th
      simp only at l9 l20
      go_wp2
      go_end0
      exact ⟨rfl, _, i1.set _ _, n2, s1.trans (Same.set _ _ (by omega))⟩
    · by_cases hn : (s.wn : Int) < K.k
      · have e : fz = { s with sd := d, wt := fun i => if i = s.wn then s.fnd else s.wt i, wn := s.wn + 1, pc := s.th } := by rw [← hfz.out]; unfold Km.gf; rw [if_pos hp, if_pos ⟨hg, hn⟩]
        subst e
        rw [hg] at h85
        have hw2 : s.wn < 64 := by omega
        have hn2 : decide ((s.wn : Int) < K.k) = true := decide_eq_true hn
        have e1 : IntKind.i64.wrap ((s.wn : Int) + 1) = ((s.wn + 1 : Nat) : Int) := by rw [IntKind.wrap_i64]; omega
        have hwi : (0 : Int) ≤ (s.wn : Int) ∧ (s.wn : Int) < 64 := by omega
        have hw3 : ((s.wn : Int)).toNat = s.wn := by omega
        clear hfz hp hd1 hg hk hw
        go_enter Tryd.func16, Tryd.ntmps16
        go_upto_region 1 with (go_at_call 34; with_reducible refine c0.mono ?_; rintro e w1 ⟨rfl, c1, i1, a1, s1⟩)
        have n1 := hput _ s1 a1
        replace s1 := hsame _ s1
        obtain ⟨q1, q2, q3⟩ := h85 _ _ i1 n1
        clear a1 hput hsame c0 h85
        go_quiet (fail)
        replace i1 := i1.below (below_drewN (Below.refl _ w1) nq)
        clear q1 q2 q3
        generalize w1.drewN nq = w2 at *
        have n2 := n1.put_wt hw2 s.fnd
        have n3 := n2.put_wn (s.wn + 1)
        have n4 := n3.put_pc s.th
        simp only at n2 n3 n4
        go_upto_region 2 with fail
        have hr1 : ∀ wr, InA w wr M G K.N X' (T + 1) P c1 t → wr.cell? ⟨P, o + 85, none⟩ = some (.int .i64 (s.wn : Nat)) ∧ wr.cell? ⟨P, o + 13, none⟩ = some (.int .i64 (s.fnd : Nat)) := fun wr x => ⟨x.cell n1.wn, x.cell n1.fnd⟩
        have hr2 : ∀ wr, InA w wr M G K.N X' (T + 1) P (c1.setIfInBounds (o + 21 + s.wn) (.int .i64 (s.fnd : Nat))) t → wr.cell? ⟨P, o + 85, none⟩ = some (.int .i64 (s.wn : Nat)) ∧ wr.cell? ⟨P, o + 13, none⟩ = some (.int .i64 (s.fnd : Nat)) := fun wr x => ⟨x.cell n2.wn, x.cell n2.fnd⟩
        have i0 := i1
        replace i1 := i1.drew
        have lw := i1.cell (n1.wt s.wn hw2)
        have fw := i1.free (o + 21 + s.wn)
        simp only at lw
        go_region_held (fun wr => wr.cell? ⟨P, o + 85, none⟩ = some (.int .i64 (s.wn : Nat)) ∧ wr.cell? ⟨P, o + 13, none⟩ = some (.int .i64 (s.fnd : Nat))) (first | (with_reducible exact hr1 _ i1) | (with_reducible exact hr2 _ (i0.set (o + 21 + s.wn) (.int .i64 (s.fnd : Nat))).drew)) (fail)
        clear i1 lw fw hr1 hr2
        have i2 := (i0.set (o + 21 + s.wn) (.int .i64 (s.fnd : Nat))).drew
        clear i0
        generalize World.drew _ = w3 at *
        have l85 := i2.cell n2.wn
        have f85 := i2.free (o + 85)
        simp only at l85
        have e5 : ((s.wn + 1 : Nat) : Int) = (s.wn : Int) + 1 := by omega
        rw [e5] at n3 n4
        replace i2 := i2.set (o + 85) (.int .i64 ((s.wn : Int) + 1))
        clear e5
        go_upto_region 4 with fail
        clear l85 f85
        generalize World.setCell _ _ _ = w4 at *
        obtain ⟨l9, l20, f⟩ := n3.pcs i2
        simp only at l9 l20
        go_wp2
        go_end0
        exact ⟨rfl, _, i2.set _ _, n4, ((s1.trans (Same.set _ _ (by omega))).trans (Same.set _ _ (by omega))).trans (Same.set _ _ (by omega))⟩
      · have e : fz = { s with sd := d, pc := s.th } := by rw [← hfz.out]; unfold Km.gf; rw [if_pos hp, if_neg (by intro h; exact hn h.2)]
        subst e
        rw [hg] at h85
        have hn2 : decide ((s.wn : Int) < K.k) = false := decide_eq_false hn
        clear hfz hp hd1 hg
        go_enter Tryd.func16, Tryd.ntmps16
        go_upto_region 1 with (go_at_call 34; with_reducible refine c0.mono ?_; rintro e w1 ⟨rfl, c1, i1, a1, s1⟩)
        have n1 := hput _ s1 a1
        replace s1 := hsame _ s1
        obtain ⟨q1, q2, q3⟩ := h85 _ _ i1 n1
        clear a1 hput hsame c0 h85
        go_quiet (fail)
        replace i1 := i1.below (below_drewN (Below.refl _ w1) nq)
        clear q1 q2 q3
        generalize w1.drewN nq = w2 at *
        obtain ⟨l9, l20, f⟩ := n1.pcs i1
        have n2 := n1.put_pc s.th
        simp only at l9 l20
        go_wp2
        go_end0
        exact ⟨rfl, _, i1.set _ _, n2, s1.trans (Same.set _ _ (by omega))⟩
  · have hd1 : decide (d.pc = 4) = false := decide_eq_false hp
    rw [hd1] at c0
    have e : fz = { s with sd := d } := by rw [← hfz.out]; unfold Km.gf; rw [if_neg hp]
    subst e
    clear hfz hp hd1 h85
    go_enter Tryd.func16, Tryd.ntmps16
    go_wp2_with (go_at_call 34; with_reducible refine c0.mono ?_; rintro e w1 ⟨rfl, c1, i1, a1, s1⟩)
    exact bodyPost_ret (results_none rfl _ _ _) rfl ⟨rfl, _, i1, hput _ s1 a1, hsame _ s1⟩
end Go.Proofs.YteechgmjaagbmaaDoor
