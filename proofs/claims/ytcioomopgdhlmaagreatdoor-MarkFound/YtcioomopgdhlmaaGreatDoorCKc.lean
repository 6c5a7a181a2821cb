/- mark's find. -/
import Derived.Test.YtcioomopgdhlmaaGreatDoorCKb
namespace Go.Proofs.YtcioomopgdhlmaaGreatDoor
open Go.RowKit
open Mm (IsMem MS touched Only IsWords)
open Hh (WT okW)

theorem KmAt.rd7 {w wr : World} {M G N P : Nat} {X : List Nat} {T : Int} {c : Array Value} {t : TypeId} {o : Nat} {K : Cf} {s : Km} (h : KmAt c o K s) (is : InA w wr M G N X T P c t) :
    wr.cell? ⟨P, o + 2, none⟩ = some (.int .i64 (K.S : Nat)) ∧ wr.cell? ⟨P, o + 2 + 1, none⟩ = some (.int .i64 K.a) ∧ wr.cell? ⟨P, o + 2 + 2, none⟩ = some (.int .i64 (K.C : Nat)) ∧ wr.cell? ⟨P, o + 2 + 3, none⟩ = some (.int .i64 (K.D : Nat)) ∧ wr.cell? ⟨P, o + 2 + 4, none⟩ = some (.int .i64 K.g) ∧ wr.cell? ⟨P, o + 2 + 5, none⟩ = some (.int .i64 K.k) ∧ wr.cell? ⟨P, o + 8, none⟩ = some (.int .u64 (s.e : Nat)) :=
  ⟨is.cell h.k0, is.cell h.k1, is.cell h.k2, is.cell h.k3, is.cell h.k4, is.cell h.k5, is.cell h.e⟩

set_option maxHeartbeats 2000000 in
theorem kfind_no {w : World} {M G N P o : Nat} {X : List Nat} {T : Int} {c : Array Value} {t : TypeId} {K : Cf} {s : Km} (is : InA w w M G N X T P c t) (hs : KmAt c o K s) {x : Int} (hx : ¬ (0 ≤ x ∧ x < K.S)) (th : Nat) :
    Calls Tryz.prog 66 #[.pointer (some ⟨P, o, none⟩), .int .i64 x, .int .i64 (th : Nat)] w fun r w' => r = .returned (.tuple #[]) ∧ ∃ c', InA w w' M G N X T P c' t ∧ KmAt c' o K { s with pc := th } ∧ Same c c' o (o + 91) := by
  have c1 := newShade_no (s := K.S) (a := K.a) (c := K.C) (d := K.D) (g := K.g) (k := K.k) x s.e (by rw [Bool.and_eq_false_iff]; right; cases h : be x K.S; rfl; exact absurd (be_iff.1 h) (by omega))
  have n1 := hs.put_pc th
  have l9 := is.cell hs.pc
  have f9 := is.free (o + 9)
  replace is := is.set (o + 9) (.int .i64 (th : Nat))
  have s1 : Same c (c.setIfInBounds (o + 9) (.int .i64 (th : Nat))) o (o + 91) := Same.set _ _ (by omega)
  have hrd : ∀ wr, InA w wr M G N X T P (c.setIfInBounds (o + 9) (.int .i64 (th : Nat))) t → _ := fun wr x => n1.rd7 x
  simp only at hrd
  unfold cs at *
  clear hs hx
  go_enter Tryz.func66, Tryz.ntmps66
  go_upto_region 1 with fail
  clear l9 f9
  generalize w.setCell ⟨P, o + 9, none⟩ (.int .i64 (th : Nat)) = w2 at *
  replace is := is.drew
  go_region_held (fun wr => wr.cell? ⟨P, o + 2, none⟩ = some (.int .i64 (K.S : Nat)) ∧ wr.cell? ⟨P, o + 2 + 1, none⟩ = some (.int .i64 K.a) ∧ wr.cell? ⟨P, o + 2 + 2, none⟩ = some (.int .i64 (K.C : Nat)) ∧ wr.cell? ⟨P, o + 2 + 3, none⟩ = some (.int .i64 (K.D : Nat)) ∧ wr.cell? ⟨P, o + 2 + 4, none⟩ = some (.int .i64 K.g) ∧ wr.cell? ⟨P, o + 2 + 5, none⟩ = some (.int .i64 K.k) ∧ wr.cell? ⟨P, o + 8, none⟩ = some (.int .u64 (s.e : Nat))) (with_reducible exact hrd _ is) (first
    | (go_at_call 85; with_reducible refine (c1 _).mono ?_; rintro e w3 ⟨rfl, b⟩; replace is := is.below b))
  clear hrd c1
  go_wp2
  go_end0
  exact ⟨rfl, _, is, n1, s1⟩

theorem sd0_at {w wr : World} {M G N P o : Nat} {X : List Nat} {T : Int} {c : Array Value} {t : TypeId} (is : InA w wr M G N X T P c t) (hl : o + 91 < c.size) (h e : Nat) :
    ∃ c', InA w ((((((wr.setCell ⟨P, o + 14, none⟩ (.bool false)).setCell ⟨P, o + 14 + 1, none⟩ (.int .i64 (h : Nat))).setCell ⟨P, o + 14 + 2, none⟩ (.int .u64 (e : Nat))).setCell ⟨P, o + 14 + 3, none⟩ (.int .i64 0)).setCell ⟨P, o + 14 + 4, none⟩ (.int .u64 0)).setCell ⟨P, o + 14 + 5, none⟩ (.int .u64 0)) M G N X T P c' t ∧ SdAt c' (o + 14) (sd0 h e) ∧ Same c c' (o + 14) (o + 14 + 5) := by
  refine ⟨_, (((((is.set _ _).set _ _).set _ _).set _ _).set _ _).set _ _, ?_, ?_⟩
  · refine ⟨?_, ?_, ?_, ?_, ?_, ?_⟩
    · exact ((((get_set_ne (by omega)).trans (get_set_ne (by omega))).trans (get_set_ne (by omega))).trans (get_set_ne (by omega))).trans ((get_set_ne (by omega)).trans (get_set (by omega)))
    · exact ((((get_set_ne (by omega)).trans (get_set_ne (by omega))).trans (get_set_ne (by omega))).trans (get_set_ne (by omega))).trans (get_set (by simp; omega))
    · exact (((get_set_ne (by omega)).trans (get_set_ne (by omega))).trans (get_set_ne (by omega))).trans (get_set (by simp; omega))
    · exact ((get_set_ne (by omega)).trans (get_set_ne (by omega))).trans (get_set (by simp; omega))
    · exact (get_set_ne (by omega)).trans (get_set (by simp; omega))
    · exact get_set (by simp; omega)
  · exact (((((Same.set _ _ (by omega)).trans (Same.set _ _ (by omega))).trans (Same.set _ _ (by omega))).trans (Same.set _ _ (by omega))).trans (Same.set _ _ (by omega))).trans (Same.set _ _ (by omega))

set_option maxHeartbeats 4000000 in
theorem kfind_yes {w : World} {M G N P o : Nat} {X : List Nat} {T : Int} {c : Array Value} {t : TypeId} {K : Cf} {s : Km} (hK : K.Ok) (is : InA w w M G N X T P c t) (hs : KmAt c o K s) {x : Nat} (hx : x < K.S) (th : Nat) :
    Calls Tryz.prog 66 #[.pointer (some ⟨P, o, none⟩), .int .i64 (x : Nat), .int .i64 (th : Nat)] w fun r w' => r = .returned (.tuple #[]) ∧ ∃ c', InA w w' M G N X T P c' t ∧ KmAt c' o K { s with fnd := x, sd := sd0 (K.hd x) s.e, th := th, pc := 15 } ∧ Same c c' o (o + 91) := by
  have c1 := newShade_yes hK x hx s.e
  have n1 := hs.put_pc th
  have n2 := n1.put_fnd x
  have l9 := is.cell hs.pc
  have f9 := is.free (o + 9)
  replace is := is.set (o + 9) (.int .i64 (th : Nat))
  have s1 : Same c (c.setIfInBounds (o + 9) (.int .i64 (th : Nat))) o (o + 91) := Same.set _ _ (by omega)
  have hrd : ∀ wr, InA w wr M G N X T P (c.setIfInBounds (o + 9) (.int .i64 (th : Nat))) t → _ := fun wr x => n1.rd7 x
  simp only at hrd
  unfold Cf.cs at *
  generalize K.hd x = L at *
  clear hs hx hK
  go_enter Tryz.func66, Tryz.ntmps66
  go_upto_region 1 with fail
  clear l9 f9
  generalize w.setCell ⟨P, o + 9, none⟩ (.int .i64 (th : Nat)) = w2 at *
  replace is := is.drew
  go_region_held (fun wr => wr.cell? ⟨P, o + 2, none⟩ = some (.int .i64 (K.S : Nat)) ∧ wr.cell? ⟨P, o + 2 + 1, none⟩ = some (.int .i64 K.a) ∧ wr.cell? ⟨P, o + 2 + 2, none⟩ = some (.int .i64 (K.C : Nat)) ∧ wr.cell? ⟨P, o + 2 + 3, none⟩ = some (.int .i64 (K.D : Nat)) ∧ wr.cell? ⟨P, o + 2 + 4, none⟩ = some (.int .i64 K.g) ∧ wr.cell? ⟨P, o + 2 + 5, none⟩ = some (.int .i64 K.k) ∧ wr.cell? ⟨P, o + 8, none⟩ = some (.int .u64 (s.e : Nat))) (with_reducible exact hrd _ is) (first
    | (go_at_call 85; with_reducible refine (c1 _).mono ?_; rintro e w3 ⟨Q, rfl, nb⟩; replace is := is.below nb.bel))
  clear hrd c1
  have q0 : w3.cell? ⟨Q, 0, none⟩ = some (.bool false) := by simp [World.cell?, nb.blk]
  have q1 : w3.cell? ⟨Q, 1, none⟩ = some (.int .i64 (L : Nat)) := by simp [World.cell?, nb.blk]
  have q2 : w3.cell? ⟨Q, 2, none⟩ = some (.int .u64 (s.e : Nat)) := by simp [World.cell?, nb.blk]
  have q3 : w3.cell? ⟨Q, 3, none⟩ = some (.int .i64 0) := by simp [World.cell?, nb.blk]
  have q4 : w3.cell? ⟨Q, 4, none⟩ = some (.int .u64 0) := by simp [World.cell?, nb.blk]
  have q5 : w3.cell? ⟨Q, 5, none⟩ = some (.int .u64 0) := by simp [World.cell?, nb.blk]
  clear nb
  have p13 := is.cell n1.fnd
  have p14 := is.cell n1.sd.gw
  have p15 := is.cell n1.sd.h
  have p16 := is.cell n1.sd.e
  have p17 := is.cell n1.sd.pc
  have p18 := is.cell n1.sd.was
  have p19 := is.cell n1.sd.now
  have p20 := is.cell n1.th
  have fz := is.free
  simp only at p13 p14 p15 p16 p17 p18 p19 p20
  go_upto_region 4 with fail
  clear q0 q1 q2 q3 q4 q5 p13 p14 p15 p16 p17 p18 p19 p20 fz
  have i2 := is.set (o + 13) (.int .i64 (x : Nat))
  obtain ⟨c3, i3, a3, s3⟩ := sd0_at i2 n2.size L s.e
  have n3 := n2.put_sd s3 a3
  clear is i2
  have n4 := n3.put_th th
  have n5 := n4.put_pc 15
  have i4 := i3.set (o + 20) (.int .i64 (th : Nat))
  have ss : Same c ((c3.setIfInBounds (o + 20) (.int .i64 (th : Nat))).setIfInBounds (o + 9) (.int .i64 15)) o (o + 91) :=
    (s1.trans (Same.set _ _ (by omega))).trans ((⟨s3.size, fun i hi => s3.out i (by omega)⟩ : Same _ c3 o (o + 91)).trans ((Same.set _ _ (by omega)).trans (Same.set _ _ (by omega))))
  clear i3 a3 s3 n1 n2 n3 s1
  generalize World.setCell _ _ _ = w5 at *
  have l9 := i4.cell n4.pc
  have f9 := i4.free (o + 9)
  replace i4 := i4.set (o + 9) (.int .i64 15)
  go_wp2
  go_end0
  exact ⟨rfl, _, i4, n5, ss⟩

theorem kfind_any {w : World} {M G N P o : Nat} {X : List Nat} {T : Int} {c : Array Value} {t : TypeId} {K : Cf} {s : Km} (hK : K.Ok) (is : InA w w M G N X T P c t) (hs : KmAt c o K s) (x : Int) (th : Nat) :
    Calls Tryz.prog 66 #[.pointer (some ⟨P, o, none⟩), .int .i64 x, .int .i64 (th : Nat)] w fun r w' => r = .returned (.tuple #[]) ∧ ∃ c', InA w w' M G N X T P c' t ∧ KmAt c' o K (s.find K x th) ∧ Same c c' o (o + 91) := by
  by_cases hx : 0 ≤ x ∧ x < K.S
  · obtain ⟨n, rfl⟩ := Int.eq_ofNat_of_zero_le hx.1
    have e : s.find K (n : Int) th = { s with fnd := n, sd := sd0 (K.hd n) s.e, th := th, pc := 15 } := by unfold Km.find; rw [if_pos hx]; rfl
    rw [e]
    exact kfind_yes hK is hs (by omega) th
  · have e : s.find K x th = { s with pc := th } := by unfold Km.find; rw [if_neg hx]
    rw [e]
    exact kfind_no is hs hx th
end Go.Proofs.YtcioomopgdhlmaaGreatDoor
