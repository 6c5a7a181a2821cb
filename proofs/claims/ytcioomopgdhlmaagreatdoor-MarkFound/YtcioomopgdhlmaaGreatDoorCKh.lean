/- mark's loadOlder where there is none, and blacken. -/
import Derived.Test.YtcioomopgdhlmaaGreatDoorCG
namespace Go.Proofs.YtcioomopgdhlmaaGreatDoor
open Go.RowKit
open Mm (IsMem MS touched Only IsWords)
open Hh (WT okW wordOf IsHd)

set_option maxHeartbeats 8000000 in
theorem kolder_none {w : World} {M G P o : Nat} {X : List Nat} {T : Int} {c : Array Value} {t : TypeId} {K : Cf} {s : Km} (hK : K.Ok) (is : InA w w M G K.N X T P c t) (hs : KmAt c o K s) (hx : s.sl < K.S) (hB : 2 < K.B) (hT : T + 1 < 4611686018427387904) {v : Nat} (hv : X.getD (K.bd s.sl 2) 0 = v) (hn : K.nm v = -1) :
    Calls Tryz.prog 91 #[.pointer (some ⟨P, o, none⟩), .pointer (some ⟨M, 0, none⟩)] w fun r w' => r = .returned (.tuple #[]) ∧ ∃ c', InA w w' M G K.N X (T + 1) P c' t ∧ KmAt c' o K (s.find K (-1) 11) ∧ Same c c' o (o + 91) := by
  have hlt := is.mem.fits (K.bd s.sl 2)
  rw [hv] at hlt
  have c37 := fun wr (x : InA w wr M G K.N X T P c t) => kload_in hK x hs hx (i := 2) hB hT hv
  rw [show ((2 : Nat) : Int) = 2 from rfl] at c37
  have c12 := fun w => mnamed_any hK hlt w
  rw [hn] at c12
  have c14 := fun wr (x : InA w wr M G K.N X (T + 1) P c t) => kfind_in hK x hs (-1) 11
  rw [show ((11 : Nat) : Int) = 11 from rfl] at c14
  have hr : ∀ wr T, InA w wr M G K.N X T P c t → _ := fun wr T x => hs.rdc x
  have hr2 : ∀ wr T, InA w wr M G K.N X T P c t → wr.cell? ⟨P, o + 91, none⟩ = some (.int .u64 (s.sm : Nat)) ∧ wr.cell? ⟨P, o + 12, none⟩ = some (.int .u64 (s.least : Nat)) := fun wr T x => ⟨x.cell hs.sm, x.cell hs.least⟩
  unfold Cf.cs at *
  clear hs hx hB hv hlt hK hn
  go_enter Tryz.func91, Tryz.ntmps91
  go_upto_region 0 with fail
  replace is := is.drew
  go_region_held (fun wr => wr.cell? ⟨P, o + 2, none⟩ = some (.int .i64 (K.S : Nat)) ∧ wr.cell? ⟨P, o + 2 + 1, none⟩ = some (.int .i64 K.a) ∧ wr.cell? ⟨P, o + 2 + 2, none⟩ = some (.int .i64 (K.C : Nat)) ∧ wr.cell? ⟨P, o + 2 + 3, none⟩ = some (.int .i64 (K.D : Nat)) ∧ wr.cell? ⟨P, o + 2 + 4, none⟩ = some (.int .i64 K.g) ∧ wr.cell? ⟨P, o + 2 + 5, none⟩ = some (.int .i64 K.k)) (with_reducible exact hr _ _ is) (first
    | (go_at_call 89; with_reducible refine (c37 _ is).mono ?_; rintro e w3 ⟨rfl, i1⟩; clear is; have is := i1; clear i1)
    | (go_at_call 57; with_reducible refine (c12 _).mono ?_; rintro e w3 ⟨rfl, b⟩; replace is := is.below b))
  clear hr c37 c12
  go_upto_region 2 with fail
  obtain ⟨q1, q2⟩ := hr2 _ _ is
  go_quiet (fail)
  replace is := is.below (below_drewN (Below.refl _ _) nq)
  clear q1 q2 hr2
  generalize World.drewN _ _ = w5 at *
  have cc := c14 _ is
  clear c14
  go_wp2_with (go_at_call 66; with_reducible refine cc.mono ?_; rintro e w6 ⟨rfl, c6, i6, n6, s6⟩)
  go_end0
  exact ⟨rfl, _, i6, n6, s6⟩

set_option maxHeartbeats 8000000 in
theorem kblack_yes {w : World} {M G P o : Nat} {X : List Nat} {T : Int} {c : Array Value} {t : TypeId} {K : Cf} {s : Km} (hK : K.Ok) (is : InA w w M G K.N X T P c t) (hs : KmAt c o K s) (hx : s.sl < K.S) (hh : s.hd < 18446744073709551616) (hT : T + 1 < 4611686018427387904) (hv : X.getD (K.hd s.sl) 0 = s.hd) :
    Calls Tryz.prog 93 #[.pointer (some ⟨P, o, none⟩), .pointer (some ⟨M, 0, none⟩)] w fun r w' => r = .returned (.tuple #[]) ∧ ∃ c', InA w w' M G K.N (X.set (K.hd s.sl) (bkW s.hd)) (T + 1) P c' t ∧ KmAt c' o K { s with pc := 13 } ∧ Same c c' o (o + 91) := by
  have htb := is.tb
  have hlen := is.len
  have c51 := fun w hw => blackened_any hh w hw
  have c43 := fun w => header_at hK hx rfl w
  have c69 : ∀ wr c, InA w wr M G K.N X T P c t → Calls Tryz.prog 104 #[.pointer (some ⟨M, 0, none⟩), .int .i64 (K.hd s.sl : Nat), .int .u64 (s.hd : Nat), .int .u64 (bkW s.hd : Nat)] wr fun e w' => e = .returned (.bool true) ∧ InA w w' M G K.N (X.set (K.hd s.sl) (bkW s.hd)) (T + 1) P c t := fun wr c x =>
    (swapX_yes x.mem (by rw [hlen]; exact K.hd_lt hx) (bkW_lt hh) hv htb).mono fun e w' ⟨h1, h2, h3⟩ => ⟨h1, x.only h2 h3 (by rw [List.length_set]; exact hlen) (by omega)⟩
  have n1 := hs.put_pc 12
  have n2 := n1.put_pc 13
  simp only at n2
  have hr : ∀ wr X T, InA w wr M G K.N X T P (c.setIfInBounds (o + 9) (.int .i64 12)) t → wr.cell? ⟨P, o + 2, none⟩ = some (.int .i64 (K.S : Nat)) ∧ wr.cell? ⟨P, o + 2 + 1, none⟩ = some (.int .i64 K.a) ∧ wr.cell? ⟨P, o + 2 + 2, none⟩ = some (.int .i64 (K.C : Nat)) ∧ wr.cell? ⟨P, o + 2 + 3, none⟩ = some (.int .i64 (K.D : Nat)) ∧ wr.cell? ⟨P, o + 2 + 4, none⟩ = some (.int .i64 K.g) ∧ wr.cell? ⟨P, o + 2 + 5, none⟩ = some (.int .i64 K.k) ∧ wr.cell? ⟨P, o + 87, none⟩ = some (.int .i64 (s.sl : Nat)) ∧ wr.cell? ⟨P, o + 88, none⟩ = some (.int .u64 (s.hd : Nat)) := fun wr X T x => ⟨x.cell n1.k0, x.cell n1.k1, x.cell n1.k2, x.cell n1.k3, x.cell n1.k4, x.cell n1.k5, x.cell n1.sl, x.cell n1.hd⟩
  have h9 : ∀ wr X T, InA w wr M G K.N X T P (c.setIfInBounds (o + 9) (.int .i64 12)) t → wr.cell? ⟨P, o + 9, none⟩ = some (.int .i64 12) ∧ wr.frozen? ⟨P, o + 9, none⟩ = false := fun wr X T x => ⟨x.cell n1.pc, x.free _⟩
  have h99 : ∀ wr T, InA w wr M G K.N X T P c t → wr.cell? ⟨P, o + 9, none⟩ = some (.int .i64 (s.pc : Nat)) ∧ wr.frozen? ⟨P, o + 9, none⟩ = false := fun wr T x => ⟨x.cell hs.pc, x.free _⟩
  have l88 := is.cell hs.hd
  have cc := c51 _ is.wt
  unfold Cf.cs at *
  generalize K.hd s.sl = L at *
  generalize bkW s.hd = B at *
  generalize grayW s.hd = gb at *
  clear hs hx hh hv hK c51
  go_enter Tryz.func93, Tryz.ntmps93
  go_upto_region 1 with (first
    | (go_at_call 21; with_reducible refine cc.mono ?_; rintro e w3 ⟨rfl, b⟩; replace is := is.below b; clear l88))
  obtain ⟨l9, f9⟩ := h99 _ _ is
  replace is := is.set (o + 9) (.int .i64 12)
  clear cc h99
  go_upto_region 2 with fail
  clear l9 f9
  generalize World.setCell _ _ _ = w4 at *
  replace is := is.drew
  go_region_held (fun wr => wr.cell? ⟨P, o + 2, none⟩ = some (.int .i64 (K.S : Nat)) ∧ wr.cell? ⟨P, o + 2 + 1, none⟩ = some (.int .i64 K.a) ∧ wr.cell? ⟨P, o + 2 + 2, none⟩ = some (.int .i64 (K.C : Nat)) ∧ wr.cell? ⟨P, o + 2 + 3, none⟩ = some (.int .i64 (K.D : Nat)) ∧ wr.cell? ⟨P, o + 2 + 4, none⟩ = some (.int .i64 K.g) ∧ wr.cell? ⟨P, o + 2 + 5, none⟩ = some (.int .i64 K.k) ∧ wr.cell? ⟨P, o + 87, none⟩ = some (.int .i64 (s.sl : Nat)) ∧ wr.cell? ⟨P, o + 88, none⟩ = some (.int .u64 (s.hd : Nat))) (with_reducible exact hr _ _ _ is) (first
    | (go_at_call 19; with_reducible refine (c43 _).mono ?_; rintro e w5 ⟨rfl, b⟩; replace is := is.below b)
    | (go_at_call 104; with_reducible refine (c69 _ _ is).mono ?_; rintro e w5 ⟨rfl, i1⟩; clear is; have is := i1; clear i1))
  clear hr c43 c69
  obtain ⟨l9, f9⟩ := h9 _ _ _ is
  go_wp2
  go_end0
  exact ⟨rfl, _, is.set _ _, n2, (Same.set _ _ (by omega)).trans (Same.set _ _ (by omega))⟩

set_option maxHeartbeats 8000000 in
/-- What a pass calls. -/
theorem kp_call {w : World} {M G P o : Nat} {X X' : List Nat} {T T' : Int} {c : Array Value} {t : TypeId} {K : Cf} {m m' : Km} {fn : Nat} (is : InA w w M G K.N X T P c t) (hm : KmAt c o K m) (h1 : m.pc = 4 ∧ fn = 87 ∨ m.pc = 9 ∧ fn = 91 ∨ m.pc = 11 ∧ fn = 93)
    (c0 : Calls Tryz.prog fn #[.pointer (some ⟨P, o, none⟩), .pointer (some ⟨M, 0, none⟩)] w fun r w' => r = .returned (.tuple #[]) ∧ ∃ c', InA w w' M G K.N X' T' P c' t ∧ KmAt c' o K m' ∧ Same c c' o (o + 91)) :
    Calls Tryz.prog 70 #[.pointer (some ⟨P, o, none⟩), .pointer (some ⟨M, 0, none⟩)] w fun r w' => r = .returned (.tuple #[]) ∧ ∃ c', InA w w' M G K.N X' T' P c' t ∧ KmAt c' o K m' ∧ Same c c' o (o + 91) := by
  have l9 := is.cell hm.pc
  rcases h1 with ⟨h1, rfl⟩ | ⟨h1, rfl⟩ | ⟨h1, rfl⟩
  all_goals
    rw [h1] at l9
    clear hm h1 is
    go_enter Tryz.func70, Tryz.ntmps70
    go_wp2_with (first
      | (go_at_call 87; refine c0.mono ?_; rintro e w1 ⟨rfl, c1, i1, p1, s1⟩)
      | (go_at_call 91; refine c0.mono ?_; rintro e w1 ⟨rfl, c1, i1, p1, s1⟩)
      | (go_at_call 93; refine c0.mono ?_; rintro e w1 ⟨rfl, c1, i1, p1, s1⟩))
    go_end0
    exact ⟨rfl, c1, i1, p1, s1⟩
end Go.Proofs.YtcioomopgdhlmaaGreatDoor
