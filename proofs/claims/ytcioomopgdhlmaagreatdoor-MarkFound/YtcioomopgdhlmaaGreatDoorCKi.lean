/- mark's pass: a field, a value, a stamp, the grays. -/
import Derived.Test.YtcioomopgdhlmaaGreatDoorCKh
namespace Go.Proofs.YtcioomopgdhlmaaGreatDoor
open Go.RowKit
open Mm (IsMem MS touched Only IsWords)
open Hh (WT okW wordOf IsHd)

set_option maxHeartbeats 8000000 in
theorem kp_field {w : World} {M G P o : Nat} {X : List Nat} {T : Int} {c : Array Value} {t : TypeId} {K : Cf} {s : Km} (hK : K.Ok) (is : InA w w M G K.N X T P c t) (hs : KmAt c o K s) (hp : s.pc = 6) (hx : s.sl < K.S) (hf : s.fi < K.B) (hT : T + 1 < 4611686018427387904) {v : Nat} (hv : X.getD (K.bd s.sl s.fi) 0 = v) :
    Calls Tryz.prog 70 #[.pointer (some ⟨P, o, none⟩), .pointer (some ⟨M, 0, none⟩)] w fun r w' => r = .returned (.tuple #[]) ∧ ∃ c', InA w w' M G K.N X (T + 1) P c' t ∧ KmAt c' o K (({ s with fi := s.fi + 1 } : Km).find K (K.nm v) ({ s with fi := s.fi + 1 } : Km).nf) ∧ Same c c' o (o + 91) := by
  have hlt := is.mem.fits (K.bd s.sl s.fi)
  rw [hv] at hlt
  have hb8 := hK.b8
  have c37 := kload_in hK is hs hx hf hT hv
  have c12 := fun w => mnamed_any hK hlt w
  have n1 := hs.put_fi (s.fi + 1)
  have e5 : ((s.fi + 1 : Nat) : Int) = (s.fi : Int) + 1 := by omega
  have e1 : IntKind.i64.wrap ((s.fi : Int) + 1) = (s.fi : Int) + 1 := by rw [IntKind.wrap_i64]; omega
  rw [e5] at n1
  have c38 := fun wr (x : InA w wr M G K.N X (T + 1) P (c.setIfInBounds (o + 89) (.int .i64 ((s.fi : Int) + 1))) t) => knf_in x n1
  have c14 := fun wr (x : InA w wr M G K.N X (T + 1) P (c.setIfInBounds (o + 89) (.int .i64 ((s.fi : Int) + 1))) t) => kfind_in hK x n1 (K.nm v) ({ s with fi := s.fi + 1 } : Km).nf
  have hr : ∀ wr, InA w wr M G K.N X (T + 1) P (c.setIfInBounds (o + 89) (.int .i64 ((s.fi : Int) + 1))) t → _ := fun wr x => n1.rdc x
  have h89 : ∀ wr T, InA w wr M G K.N X T P c t → wr.cell? ⟨P, o + 89, none⟩ = some (.int .i64 (s.fi : Nat)) ∧ wr.frozen? ⟨P, o + 89, none⟩ = false := fun wr T x => ⟨x.cell hs.fi, x.free _⟩
  have l9 := is.cell hs.pc
  rw [hp] at l9
  obtain ⟨l89, f89⟩ := h89 _ _ is
  obtain ⟨s', hs'⟩ : ∃ s' : Km, ({ s with fi := s.fi + 1 } : Km).find K (K.nm v) ({ s with fi := s.fi + 1 } : Km).nf = s' := ⟨_, rfl⟩
  rw [hs']
  simp only [hs'] at c14
  replace hs' := hid1 hs'
  obtain ⟨q, hq⟩ : ∃ q, ({ s with fi := s.fi + 1 } : Km).nf = q := ⟨_, rfl⟩
  simp only [hq] at c14 c38
  replace hq := hid1 hq
  unfold Cf.cs at *
  generalize K.nm v = y at *
  clear hs hx hf hlt hv hK hb8 hp
  replace e5 := hid1 e5
  go_enter Tryz.func70, Tryz.ntmps70
  go_upto_region 7 with (first
    | (go_at_call 89; with_reducible refine c37.mono ?_; rintro e w3 ⟨rfl, i1⟩; clear is l9 l89 f89; obtain ⟨l89, f89⟩ := h89 _ _ i1))
  replace i1 := i1.set (o + 89) (.int .i64 ((s.fi : Int) + 1))
  clear h89 c37
  go_upto_region 8 with fail
  clear l89 f89 e1
  generalize World.setCell _ _ _ = w4 at *
  obtain ⟨k0, k1, k2, k3, k4, k5⟩ := hr _ i1
  go_wp2_with (first
    | (go_at_call 57; with_reducible refine (c12 _).mono ?_; rintro e w5 ⟨rfl, b⟩; replace i1 := i1.below b)
    | (go_at_call 90; with_reducible refine (c38 _ i1).mono ?_; rintro e w6 ⟨rfl, i2⟩)
    | (go_at_call 66; with_reducible refine (c14 _ i2).mono ?_; rintro e w7 ⟨rfl, c7, i7, n7, s7⟩))
  go_end0
  exact ⟨rfl, _, i7, n7, (Same.set _ _ (by omega)).trans s7⟩

set_option maxHeartbeats 8000000 in
theorem kp_value {w : World} {M G P o : Nat} {X : List Nat} {T : Int} {c : Array Value} {t : TypeId} {K : Cf} {s : Km} (hK : K.Ok) (is : InA w w M G K.N X T P c t) (hs : KmAt c o K s) (hp : s.pc = 7) (hx : s.sl < K.S) (hB : 0 < K.B) (hT : T + 1 < 4611686018427387904) {v : Nat} (hv : X.getD (K.bd s.sl 0) 0 = v) :
    Calls Tryz.prog 70 #[.pointer (some ⟨P, o, none⟩), .pointer (some ⟨M, 0, none⟩)] w fun r w' => r = .returned (.tuple #[]) ∧ ∃ c', InA w w' M G K.N X (T + 1) P c' t ∧ KmAt c' o K (s.find K (K.nm v) 8) ∧ Same c c' o (o + 91) := by
  have hlt := is.mem.fits (K.bd s.sl 0)
  rw [hv] at hlt
  have c37 := fun wr (x : InA w wr M G K.N X T P c t) => kload_in hK x hs hx (i := 0) hB hT hv
  rw [show ((0 : Nat) : Int) = 0 from rfl] at c37
  have c12 := fun w => mnamed_any hK hlt w
  have c14 := fun wr (x : InA w wr M G K.N X (T + 1) P c t) => kfind_in hK x hs (K.nm v) 8
  rw [show ((8 : Nat) : Int) = 8 from rfl] at c14
  have hr : ∀ wr T, InA w wr M G K.N X T P c t → _ := fun wr T x => hs.rdc x
  have hr2 : ∀ wr c', InA w wr M G K.N X (T + 1) P c' t → KmAt c' o K (s.find K (K.nm v) 8) → _ := fun wr c' x y => y.rdc x
  have l9 := is.cell hs.pc
  rw [hp] at l9
  unfold Cf.cs at *
  generalize s.find K (K.nm v) 8 = s' at *
  generalize K.nm v = y at *
  clear hs hx hB hv hlt hK hp
  go_enter Tryz.func70, Tryz.ntmps70
  go_upto_region 10 with fail
  clear l9
  replace is := is.drew
  go_region_held (fun wr => wr.cell? ⟨P, o + 2, none⟩ = some (.int .i64 (K.S : Nat)) ∧ wr.cell? ⟨P, o + 2 + 1, none⟩ = some (.int .i64 K.a) ∧ wr.cell? ⟨P, o + 2 + 2, none⟩ = some (.int .i64 (K.C : Nat)) ∧ wr.cell? ⟨P, o + 2 + 3, none⟩ = some (.int .i64 (K.D : Nat)) ∧ wr.cell? ⟨P, o + 2 + 4, none⟩ = some (.int .i64 K.g) ∧ wr.cell? ⟨P, o + 2 + 5, none⟩ = some (.int .i64 K.k)) (first | (with_reducible exact hr _ _ is) | (with_reducible exact hr2 _ _ i6 n6)) (first
    | (go_at_call 89; with_reducible refine (c37 _ is).mono ?_; rintro e w3 ⟨rfl, i1⟩; clear is; have is := i1; clear i1)
    | (go_at_call 57; with_reducible refine (c12 _).mono ?_; rintro e w4 ⟨rfl, b⟩; replace is := is.below b)
    | (go_at_call 66; with_reducible refine (c14 _ is).mono ?_; rintro e w6 ⟨rfl, c6, i6, n6, s6⟩; clear is))
  go_wp2
  go_end0
  exact ⟨rfl, _, i6, n6, s6⟩

set_option maxHeartbeats 8000000 in
theorem kp_stamp {w : World} {M G P o : Nat} {X : List Nat} {T : Int} {c : Array Value} {t : TypeId} {K : Cf} {s : Km} (hK : K.Ok) (is : InA w w M G K.N X T P c t) (hs : KmAt c o K s) (hp : s.pc = 8) (hx : s.sl < K.S) (hB : 1 < K.B) (hT : T + 1 < 4611686018427387904) {v : Nat} (hv : X.getD (K.bd s.sl 1) 0 = v) :
    Calls Tryz.prog 70 #[.pointer (some ⟨P, o, none⟩), .pointer (some ⟨M, 0, none⟩)] w fun r w' => r = .returned (.tuple #[]) ∧ ∃ c', InA w w' M G K.N X (T + 1) P c' t ∧ KmAt c' o K { s with sm := v, pc := 9 } ∧ Same c c' o (o + 91) := by
  have c37 := kload_in hK is hs hx (i := 1) hB hT hv
  rw [show ((1 : Nat) : Int) = 1 from rfl] at c37
  have n1 := hs.put_sm v
  have n2 := n1.put_pc 9
  simp only at n2
  have hr : ∀ wr T, InA w wr M G K.N X T P c t → wr.cell? ⟨P, o + 91, none⟩ = some (.int .u64 (s.sm : Nat)) ∧ wr.cell? ⟨P, o + 9, none⟩ = some (.int .i64 (s.pc : Nat)) ∧ ∀ i, wr.frozen? ⟨P, i, none⟩ = false := fun wr T x => ⟨x.cell hs.sm, x.cell hs.pc, x.free⟩
  rw [hp] at hr
  obtain ⟨_, l9, _⟩ := hr _ _ is
  clear hs hx hB hv hK hp
  go_enter Tryz.func70, Tryz.ntmps70
  go_wp2_with (first
    | (go_at_call 89; with_reducible refine c37.mono ?_; rintro e w3 ⟨rfl, i1⟩; clear is l9; obtain ⟨l91, l9, ff⟩ := hr _ _ i1))
  go_end0
  exact ⟨rfl, _, (i1.set _ _).set _ _, n2, (Same.set _ _ (by omega)).trans (Same.set _ _ (by omega))⟩

set_option maxHeartbeats 8000000 in
theorem kp_less {w : World} {M G P o : Nat} {X : List Nat} {T : Int} {c : Array Value} {t : TypeId} {K : Cf} {s : Km} (hK : K.Ok) (is : InA w w M G K.N X T P c t) (hs : KmAt c o K s) (hp : s.pc = 13) (hT : T + 1 < 4611686018427387904) {sm : Nat} (hv : Mm.sumW (X.getD 2 0) 18446744073709551615 = sm) :
    Calls Tryz.prog 70 #[.pointer (some ⟨P, o, none⟩), .pointer (some ⟨M, 0, none⟩)] w fun r w' => r = .returned (.tuple #[]) ∧ ∃ c', InA w w' M G K.N (X.set 2 sm) (T + 1) P c' t ∧ KmAt c' o K { s with pc := s.nw K } ∧ Same c c' o (o + 91) := by
  have htb := is.tb
  have hlen := is.len
  have hN := hK.N_b
  have c44 : Calls Tryz.prog 94 #[.pointer (some ⟨M, 0, none⟩), .int .i64 ((2 : Nat) : Int), .int .u64 ((18446744073709551615 : Nat) : Int)] w fun e w' => e = .returned (.int .u64 (sm : Nat)) ∧ InA w w' M G K.N (X.set 2 sm) (T + 1) P c t :=
    (addX is.mem (by rw [hlen]; omega) htb hv).mono fun e w' ⟨h1, h2, h3⟩ => ⟨h1, is.only h2 h3 (by rw [List.length_set]; exact hlen) (by omega)⟩
  rw [show ((2 : Nat) : Int) = 2 from rfl, show ((18446744073709551615 : Nat) : Int) = 18446744073709551615 from rfl] at c44
  have c45 := fun wr (x : InA w wr M G K.N (X.set 2 sm) (T + 1) P c t) => knw_in x hs
  have n1 := hs.put_pc (s.nw K)
  have hr : ∀ wr X T, InA w wr M G K.N X T P c t → wr.cell? ⟨P, o + 9, none⟩ = some (.int .i64 (s.pc : Nat)) ∧ wr.frozen? ⟨P, o + 9, none⟩ = false := fun wr X T x => ⟨x.cell hs.pc, x.free _⟩
  rw [hp] at hr
  obtain ⟨l9, _⟩ := hr _ _ _ is
  generalize s.nw K = q at *
  clear hs hK hp hv hN
  go_enter Tryz.func70, Tryz.ntmps70
  go_wp2_with (first
    | (go_at_call 94; with_reducible refine c44.mono ?_; rintro e w3 ⟨rfl, i1⟩; clear is l9)
    | (go_at_call 95; with_reducible refine (c45 _ i1).mono ?_; rintro e w4 ⟨rfl, i2⟩; obtain ⟨l9, f9⟩ := hr _ _ _ i2))
  go_end0
  exact ⟨rfl, _, i2.set _ _, n1, Same.set _ _ (by omega)⟩
end Go.Proofs.YtcioomopgdhlmaaGreatDoor
