/- A Mark's step. -/
import Derived.Test.YtcioomopgdhlmaaGreatDoorCKi
namespace Go.Proofs.YtcioomopgdhlmaaGreatDoor
open Go.RowKit
open Mm (IsMem MS touched Only IsWords)
open Hh (WT okW wordOf IsHd)

set_option maxHeartbeats 8000000 in
theorem km_call {w : World} {M G P o : Nat} {X X' : List Nat} {T T' : Int} {c : Array Value} {t : TypeId} {K : Cf} {m m' : Km} {fn : Nat} (is : InA w w M G K.N X T P c t) (hm : KmAt c o K m) (h1 : m.pc = 1 ∧ fn = 64 ∨ m.pc = 2 ∧ fn = 65 ∨ m.pc = 15 ∧ fn = 68 ∨ m.pc = 14 ∧ fn = 69 ∨ m.pc = 4 ∧ fn = 70 ∨ m.pc = 6 ∧ fn = 70 ∨ m.pc = 7 ∧ fn = 70 ∨ m.pc = 8 ∧ fn = 70 ∨ m.pc = 9 ∧ fn = 70 ∨ m.pc = 11 ∧ fn = 70 ∨ m.pc = 13 ∧ fn = 70)
    (c0 : Calls Tryz.prog fn #[.pointer (some ⟨P, o, none⟩), .pointer (some ⟨M, 0, none⟩)] w fun r w' => r = .returned (.tuple #[]) ∧ ∃ c', InA w w' M G K.N X' T' P c' t ∧ KmAt c' o K m' ∧ Same c c' o (o + 91)) :
    Calls Tryz.prog 44 #[.pointer (some ⟨P, o, none⟩), .pointer (some ⟨M, 0, none⟩)] w fun r w' => r = .returned (.bool (decide (m'.pc = 16))) ∧ ∃ c', InA w w' M G K.N X' T' P c' t ∧ KmAt c' o K m' ∧ Same c c' o (o + 91) := by
  have l9 := is.cell hm.pc
  have hd : ((m'.pc : Int) == 16) = decide (m'.pc = 16) := by by_cases e : m'.pc = 16 <;> simp [e]; omega
  rw [← hd]
  rcases h1 with ⟨h1, rfl⟩ | ⟨h1, rfl⟩ | ⟨h1, rfl⟩ | ⟨h1, rfl⟩ | ⟨h1, rfl⟩ | ⟨h1, rfl⟩ | ⟨h1, rfl⟩ | ⟨h1, rfl⟩ | ⟨h1, rfl⟩ | ⟨h1, rfl⟩ | ⟨h1, rfl⟩
  all_goals
    rw [h1] at l9
    clear hm hd h1 is
    go_enter Tryz.func44, Tryz.ntmps44
    go_wp2_with (first
      | (go_at_call 64; refine c0.mono ?_; rintro e w1 ⟨rfl, c1, i1, p1, s1⟩; have m9 := i1.cell p1.pc)
      | (go_at_call 65; refine c0.mono ?_; rintro e w1 ⟨rfl, c1, i1, p1, s1⟩; have m9 := i1.cell p1.pc)
      | (go_at_call 68; refine c0.mono ?_; rintro e w1 ⟨rfl, c1, i1, p1, s1⟩; have m9 := i1.cell p1.pc)
      | (go_at_call 69; refine c0.mono ?_; rintro e w1 ⟨rfl, c1, i1, p1, s1⟩; have m9 := i1.cell p1.pc)
      | (go_at_call 70; refine c0.mono ?_; rintro e w1 ⟨rfl, c1, i1, p1, s1⟩; have m9 := i1.cell p1.pc))
    go_ret
    exact ⟨rfl, c1, i1, p1, s1⟩

set_option maxHeartbeats 4000000 in
theorem km_clock {w : World} {M G P o : Nat} {X : List Nat} {T : Int} {c : Array Value} {t : TypeId} {K : Cf} {s : Km} (hK : K.Ok) (is : InA w w M G K.N X T P c t) (hs : KmAt c o K s) (hp : s.pc = 0) (hT : T + 1 < 4611686018427387904) :
    Calls Tryz.prog 44 #[.pointer (some ⟨P, o, none⟩), .pointer (some ⟨M, 0, none⟩)] w fun r w' => r = .returned (.bool false) ∧ ∃ c', InA w w' M G K.N X (T + 1) P c' t ∧ KmAt c' o K { s with least := X.getD 0 0, pc := 1 } ∧ Same c c' o (o + 91) := by
  have hN := hK.N_b
  have c9 := ldA (w := w) (M := M) (G := G) (P := P) (T := T) (c := c) (t := t) (L := 0) (N := K.N) (X := X) (by omega) rfl hT w is
  rw [show ((0 : Nat) : Int) = 0 from rfl] at c9
  have n1 := hs.put_least (X.getD 0 0)
  have n2 := n1.put_pc 1
  simp only at n2
  have hr : ∀ wr T, InA w wr M G K.N X T P c t → wr.cell? ⟨P, o + 12, none⟩ = some (.int .u64 (s.least : Nat)) ∧ wr.cell? ⟨P, o + 9, none⟩ = some (.int .i64 (s.pc : Nat)) ∧ ∀ i, wr.frozen? ⟨P, i, none⟩ = false := fun wr T x => ⟨x.cell hs.least, x.cell hs.pc, x.free⟩
  rw [hp] at hr
  obtain ⟨_, l9, _⟩ := hr _ _ is
  generalize X.getD 0 0 = v at *
  clear hs hp hN hK
  go_enter Tryz.func44, Tryz.ntmps44
  go_wp2_with (first
    | (go_at_call 63; with_reducible refine c9.mono ?_; rintro e w3 ⟨rfl, i1⟩; clear is l9; obtain ⟨l12, l9, ff⟩ := hr _ _ i1))
  go_ret
  exact ⟨rfl, _, (i1.set _ _).set _ _, n2, (Same.set _ _ (by omega)).trans (Same.set _ _ (by omega))⟩

set_option maxHeartbeats 8000000 in
theorem km_start {w : World} {M G P o : Nat} {X : List Nat} {T : Int} {c : Array Value} {t : TypeId} {K : Cf} {s : Km} (hK : K.Ok) (is : InA w w M G K.N X T P c t) (hs : KmAt c o K s) (hp : s.pc = 3) (hc : s.who < K.C) (hT : T + 1 < 4611686018427387904) {v : Nat} (hv : X.getD (K.st s.who) 0 = v) {s' : Km} (hs' : (s.cl K 3 4).2.find K (K.nm v) (s.cl K 3 4).1 = s') :
    Calls Tryz.prog 44 #[.pointer (some ⟨P, o, none⟩), .pointer (some ⟨M, 0, none⟩)] w fun r w' => r = .returned (.bool (decide (s'.pc = 16))) ∧ ∃ c', InA w w' M G K.N X (T + 1) P c' t ∧ KmAt c' o K s' ∧ Same c c' o (o + 91) := by
  have hd : ((s'.pc : Int) == 16) = decide (s'.pc = 16) := by by_cases e : s'.pc = 16 <;> simp [e]; omega
  rw [← hd]
  have hlt := is.mem.fits (K.st s.who)
  rw [hv] at hlt
  have h8 := hK.c8
  have c9 := ldA (w := w) (M := M) (G := G) (P := P) (T := T) (c := c) (t := t) (K.st_lt hc) hv hT
  have c13 := fun w => start_at hK hc w
  have c12 := fun w => mnamed_any hK hlt w
  have c15 := fun wr (x : InA w wr M G K.N X (T + 1) P c t) => kcl_in x hs (by omega) 3 4
  rw [show ((3 : Nat) : Int) = 3 from rfl, show ((4 : Nat) : Int) = 4 from rfl] at c15
  have c14 := fun wr c' (x : InA w wr M G K.N X (T + 1) P c' t) (y : KmAt c' o K (s.cl K 3 4).2) => kfind_in hK x y (K.nm v) (s.cl K 3 4).1
  rw [hs'] at c14
  have hr : ∀ wr T, InA w wr M G K.N X T P c t → wr.cell? ⟨P, o + 2, none⟩ = some (.int .i64 (K.S : Nat)) ∧ wr.cell? ⟨P, o + 2 + 1, none⟩ = some (.int .i64 K.a) ∧ wr.cell? ⟨P, o + 2 + 2, none⟩ = some (.int .i64 (K.C : Nat)) ∧ wr.cell? ⟨P, o + 2 + 3, none⟩ = some (.int .i64 (K.D : Nat)) ∧ wr.cell? ⟨P, o + 2 + 4, none⟩ = some (.int .i64 K.g) ∧ wr.cell? ⟨P, o + 2 + 5, none⟩ = some (.int .i64 K.k) ∧ wr.cell? ⟨P, o + 10, none⟩ = some (.int .i64 (s.who : Nat)) := fun wr T x => ⟨x.cell hs.k0, x.cell hs.k1, x.cell hs.k2, x.cell hs.k3, x.cell hs.k4, x.cell hs.k5, x.cell hs.who⟩
  have l9 := is.cell hs.pc
  rw [hp] at l9
  unfold Cf.cs at *
  generalize K.nm v = y at *
  generalize K.st s.who = L at *
  generalize s.cl K 3 4 = p at *
  obtain ⟨q, p⟩ := p
  simp only at *
  clear hs hc hv hs' hd hlt h8 hK hp
  go_enter Tryz.func44, Tryz.ntmps44
  go_upto_region 13 with fail
  clear l9
  replace is := is.drew
  go_region_held (fun wr => wr.cell? ⟨P, o + 2, none⟩ = some (.int .i64 (K.S : Nat)) ∧ wr.cell? ⟨P, o + 2 + 1, none⟩ = some (.int .i64 K.a) ∧ wr.cell? ⟨P, o + 2 + 2, none⟩ = some (.int .i64 (K.C : Nat)) ∧ wr.cell? ⟨P, o + 2 + 3, none⟩ = some (.int .i64 (K.D : Nat)) ∧ wr.cell? ⟨P, o + 2 + 4, none⟩ = some (.int .i64 K.g) ∧ wr.cell? ⟨P, o + 2 + 5, none⟩ = some (.int .i64 K.k) ∧ wr.cell? ⟨P, o + 10, none⟩ = some (.int .i64 (s.who : Nat))) (with_reducible exact hr _ _ is) (first
    | (go_at_call 58; with_reducible refine (c13 _).mono ?_; rintro e w3 ⟨rfl, b⟩; replace is := is.below b)
    | (go_at_call 63; with_reducible refine (c9 _ is).mono ?_; rintro e w3 ⟨rfl, i1⟩; clear is; have is := i1; clear i1)
    | (go_at_call 57; with_reducible refine (c12 _).mono ?_; rintro e w4 ⟨rfl, b⟩; replace is := is.below b))
  clear hr c13 c9 c12
  have cc := c15 _ is
  clear c15
  go_wp2_with (first
    | (go_at_call 67; with_reducible refine cc.mono ?_; rintro e w5 ⟨rfl, c5, i5, n5, s5⟩; have cd := c14 _ _ i5 n5)
    | (go_at_call 66; with_reducible refine cd.mono ?_; rintro e w6 ⟨rfl, c6, i6, n6, s6⟩; have m9 := i6.cell n6.pc))
  go_ret
  exact ⟨rfl, _, i6, n6, s5.trans s6⟩

theorem km_nil (q : Value) (w : World) : Calls Tryz.prog 44 #[.pointer none, q] w fun r w' => r = .returned (.bool true) ∧ w = w' := by
  go_enter Tryz.func44, Tryz.ntmps44
  go_wp2
  go_ret
  exact ⟨rfl, rfl⟩

/-- A Mark's step on the words (as far as the example goes). -/
def kmX (K : Cf) (X : List Nat) (s : Km) : List Nat × Km :=
  if s.pc = 0 then (X, { s with least := X.getD 0 0, pc := 1 })
  else if s.pc = 1 then (X, s.lv K (X.getD (K.vw s.who) 0))
  else if s.pc = 2 then (X, s.le K (X.getD (K.en s.who s.en) 0))
  else if s.pc = 3 then (X, (s.cl K 3 4).2.find K (K.nm (X.getD (K.st s.who) 0)) (s.cl K 3 4).1)
  else if s.pc = 4 then (X, s.lsl K (X.getD (K.hd s.nx) 0))
  else if s.pc = 6 then (X, ({ s with fi := s.fi + 1 } : Km).find K (K.nm (X.getD (K.bd s.sl s.fi) 0)) ({ s with fi := s.fi + 1 } : Km).nf)
  else if s.pc = 7 then (X, s.find K (K.nm (X.getD (K.bd s.sl 0) 0)) 8)
  else if s.pc = 8 then (X, { s with sm := X.getD (K.bd s.sl 1) 0, pc := 9 })
  else if s.pc = 9 then (X, s.find K (-1) 11)
  else if s.pc = 11 then (X.set (K.hd s.sl) (bkW s.hd), { s with pc := 13 })
  else if s.pc = 13 then (X.set 2 (Mm.sumW (X.getD 2 0) 18446744073709551615), { s with pc := s.nw K })
  else if s.pc = 14 then (X, s.lg (X.getD 2 0))
  else if s.pc = 15 then ((sdX X s.sd).1, s.gf K (sdX X s.sd).2)
  else (X, s)
def kmOk (K : Cf) (X : List Nat) (s : Km) : Prop :=
  s.pc = 0 ∨ (s.pc = 1 ∧ s.who < K.C) ∨ (s.pc = 2 ∧ s.who < K.C ∧ s.en < K.D) ∨ (s.pc = 3 ∧ s.who < K.C) ∨ (s.pc = 4 ∧ s.nx < K.S) ∨ (s.pc = 6 ∧ s.sl < K.S ∧ s.fi < K.B)
  ∨ (s.pc = 7 ∧ s.sl < K.S ∧ 0 < K.B) ∨ (s.pc = 8 ∧ s.sl < K.S ∧ 1 < K.B) ∨ (s.pc = 9 ∧ s.sl < K.S ∧ 2 < K.B ∧ K.nm (X.getD (K.bd s.sl 2) 0) = -1) ∨ (s.pc = 11 ∧ s.sl < K.S ∧ s.hd < 18446744073709551616 ∧ X.getD (K.hd s.sl) 0 = s.hd)
  ∨ s.pc = 13 ∨ (s.pc = 14 ∧ s.ps < 4611686018427387904) ∨ (s.pc = 15 ∧ s.sd.e < 18446744073709551616 ∧ s.sd.pc ≤ 3 ∧ s.sd.h < K.N ∧ s.sd.now < 18446744073709551616 ∧ s.wn ≤ 64)
instance (K : Cf) (X : List Nat) (s : Km) : Decidable (kmOk K X s) := by unfold kmOk; infer_instance

theorem km_any {w : World} {M G P o : Nat} {X : List Nat} {T : Int} {c : Array Value} {t : TypeId} {K : Cf} {s : Km} (hK : K.Ok) (is : InA w w M G K.N X T P c t) (hs : KmAt c o K s) (hk : K.k ≤ 64) (ok : kmOk K X s) (hT : T + 1 < 4611686018427387904) :
    Calls Tryz.prog 44 #[.pointer (some ⟨P, o, none⟩), .pointer (some ⟨M, 0, none⟩)] w fun r w' => r = .returned (.bool (decide ((kmX K X s).2.pc = 16))) ∧ ∃ c', InA w w' M G K.N (kmX K X s).1 (T + 1) P c' t ∧ KmAt c' o K (kmX K X s).2 ∧ Same c c' o (o + 91) := by
  have hN := hK.N_b
  unfold kmOk at ok
  unfold kmX
  rcases ok with h | ⟨h, h1⟩ | ⟨h, h1, h2⟩ | ⟨h, h1⟩ | ⟨h, h1⟩ | ⟨h, h1, h2⟩ | ⟨h, h1, h2⟩ | ⟨h, h1, h2⟩ | ⟨h, h1, h2, h3⟩ | ⟨h, h1, h2, h3⟩ | h | ⟨h, h1⟩ | ⟨h, h1, h2, h3, h4, h5⟩
  · rw [if_pos h]
    exact km_clock hK is hs h hT
  · rw [if_neg (by omega), if_pos h]
    exact km_call is hs (by simp [h]) (kview_as hK is hs h1 hT)
  · rw [if_neg (by omega), if_neg (by omega), if_pos h]
    exact km_call is hs (by simp [h]) (kentry_as hK is hs h1 h2 hT)
  · rw [if_neg (by omega), if_neg (by omega), if_neg (by omega), if_pos h]
    exact km_start hK is hs h h1 hT rfl rfl
  · rw [if_neg (by omega), if_neg (by omega), if_neg (by omega), if_neg (by omega), if_pos h]
    exact km_call is hs (by simp [h]) (kp_call is hs (.inl ⟨h, rfl⟩) (kslot_as hK is hs h1 hT))
  · rw [if_neg (by omega), if_neg (by omega), if_neg (by omega), if_neg (by omega), if_neg (by omega), if_pos h]
    exact km_call is hs (by simp [h]) (kp_field hK is hs h h1 h2 hT rfl)
  · rw [if_neg (by omega), if_neg (by omega), if_neg (by omega), if_neg (by omega), if_neg (by omega), if_neg (by omega), if_pos h]
    exact km_call is hs (by simp [h]) (kp_value hK is hs h h1 h2 hT rfl)
  · rw [if_neg (by omega), if_neg (by omega), if_neg (by omega), if_neg (by omega), if_neg (by omega), if_neg (by omega), if_neg (by omega), if_pos h]
    exact km_call is hs (by simp [h]) (kp_stamp hK is hs h h1 h2 hT rfl)
  · rw [if_neg (by omega), if_neg (by omega), if_neg (by omega), if_neg (by omega), if_neg (by omega), if_neg (by omega), if_neg (by omega), if_neg (by omega), if_pos h]
    exact km_call is hs (by simp [h]) (kp_call is hs (.inr (.inl ⟨h, rfl⟩)) (kolder_none hK is hs h1 h2 hT rfl h3))
  · rw [if_neg (by omega), if_neg (by omega), if_neg (by omega), if_neg (by omega), if_neg (by omega), if_neg (by omega), if_neg (by omega), if_neg (by omega), if_neg (by omega), if_pos h]
    exact km_call is hs (by simp [h]) (kp_call is hs (.inr (.inr ⟨h, rfl⟩)) (kblack_yes hK is hs h1 h2 hT h3))
  · rw [if_neg (by omega), if_neg (by omega), if_neg (by omega), if_neg (by omega), if_neg (by omega), if_neg (by omega), if_neg (by omega), if_neg (by omega), if_neg (by omega), if_neg (by omega), if_pos h]
    exact km_call is hs (by simp [h]) (kp_less hK is hs h hT rfl)
  · rw [if_neg (by omega), if_neg (by omega), if_neg (by omega), if_neg (by omega), if_neg (by omega), if_neg (by omega), if_neg (by omega), if_neg (by omega), if_neg (by omega), if_neg (by omega), if_neg (by omega), if_pos h]
    exact km_call is hs (by simp [h]) (kgrays_as hK is hs h1 hT)
  · rw [if_neg (by omega), if_neg (by omega), if_neg (by omega), if_neg (by omega), if_neg (by omega), if_neg (by omega), if_neg (by omega), if_neg (by omega), if_neg (by omega), if_neg (by omega), if_neg (by omega), if_neg (by omega), if_pos h]
    exact km_call is hs (by simp [h]) (kgf_as hs h5 hk (sd_any is hs.sd ⟨h1, by omega, h3, h4⟩ h2 (by omega) hT))
end Go.Proofs.YtcioomopgdhlmaaGreatDoor
