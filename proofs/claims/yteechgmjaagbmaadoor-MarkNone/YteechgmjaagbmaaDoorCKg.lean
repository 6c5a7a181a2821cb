/- mark's loadSlot, loadOlder, blacken. -/
import Derived.Test.YteechgmjaagbmaaDoorCKf
namespace Go.Proofs.YteechgmjaagbmaaDoor
open Go.RowKit
open Mm (IsMem MS touched Only IsWords)
open Hh (WT okW wordOf IsHd)

theorem kfind_in {w wr : World} {M G P o : Nat} {X : List Nat} {T : Int} {c : Array Value} {t : TypeId} {K : Cf} {s : Km} (hK : K.Ok) (x : InA w wr M G K.N X T P c t) (hs : KmAt c o K s) (y : Int) (q : Nat) :
    Calls Tryd.prog 14 #[.pointer (some ⟨P, o, none⟩), .int .i64 y, .int .i64 (q : Nat)] wr fun r w' => r = .returned (.tuple #[]) ∧ ∃ c', InA w w' M G K.N X T P c' t ∧ KmAt c' o K (s.find K y q) ∧ Same c c' o (o + 91) :=
  (kfind_any hK x.restart hs y q).mono fun _ _ ⟨h1, c'', h2, h3, h4⟩ => ⟨h1, c'', x.join h2, h3, h4⟩
theorem kbegin_in {w wr : World} {M G P o : Nat} {X : List Nat} {T : Int} {c : Array Value} {t : TypeId} {K : Cf} {s : Km} (hK : K.Ok) (x : InA w wr M G K.N X T P c t) (hs : KmAt c o K s) {y : Nat} (hy : y < K.S) (hT : T + 1 < 4611686018427387904) {W : Nat} (hW : X.getD (K.hd y) 0 = W) :
    Calls Tryd.prog 65 #[.pointer (some ⟨P, o, none⟩), .pointer (some ⟨M, 0, none⟩), .int .i64 (y : Nat)] wr fun r w' => r = .returned (.bool (s.bg K y W).1) ∧ ∃ c', InA w w' M G K.N X (T + 1) P c' t ∧ KmAt c' o K (s.bg K y W).2 ∧ Same c c' o (o + 91) :=
  (kbegin_as hK x.restart hs hy hT hW).mono fun _ _ ⟨h1, c'', h2, h3, h4⟩ => ⟨h1, c'', x.join h2, h3, h4⟩
theorem kns_in {w wr : World} {M G P o : Nat} {X : List Nat} {T : Int} {c : Array Value} {t : TypeId} {K : Cf} {s : Km} (x : InA w wr M G K.N X T P c t) (hs : KmAt c o K s) :
    Calls Tryd.prog 66 #[.pointer (some ⟨P, o, none⟩)] wr fun r w' => r = .returned (.int .i64 (s.ns K : Nat)) ∧ InA w w' M G K.N X T P c t :=
  (kns_as x.restart hs).mono fun _ _ ⟨h1, h2⟩ => ⟨h1, x.join h2⟩
theorem knw_in {w wr : World} {M G P o : Nat} {X : List Nat} {T : Int} {c : Array Value} {t : TypeId} {K : Cf} {s : Km} (x : InA w wr M G K.N X T P c t) (hs : KmAt c o K s) :
    Calls Tryd.prog 45 #[.pointer (some ⟨P, o, none⟩)] wr fun r w' => r = .returned (.int .i64 (s.nw K : Nat)) ∧ InA w w' M G K.N X T P c t :=
  (knw_as x.restart hs).mono fun _ _ ⟨h1, h2⟩ => ⟨h1, x.join h2⟩
theorem knf_in {w wr : World} {M G P o : Nat} {X : List Nat} {T : Int} {c : Array Value} {t : TypeId} {K : Cf} {s : Km} (x : InA w wr M G K.N X T P c t) (hs : KmAt c o K s) :
    Calls Tryd.prog 38 #[.pointer (some ⟨P, o, none⟩)] wr fun r w' => r = .returned (.int .i64 (s.nf : Nat)) ∧ InA w w' M G K.N X T P c t :=
  (knf_as x.restart hs).mono fun _ _ ⟨h1, h2⟩ => ⟨h1, x.join h2⟩
theorem kload_in {w wr : World} {M G P o : Nat} {X : List Nat} {T : Int} {c : Array Value} {t : TypeId} {K : Cf} {s : Km} (hK : K.Ok) (x : InA w wr M G K.N X T P c t) (hs : KmAt c o K s) (hl : s.sl < K.S) {i : Nat} (hi : i < K.B) (hT : T + 1 < 4611686018427387904) {v : Nat} (hv : X.getD (K.bd s.sl i) 0 = v) :
    Calls Tryd.prog 37 #[.pointer (some ⟨P, o, none⟩), .pointer (some ⟨M, 0, none⟩), .int .i64 (i : Nat)] wr fun r w' => r = .returned (.int .u64 (v : Nat)) ∧ InA w w' M G K.N X (T + 1) P c t :=
  (kload_as hK x.restart hs hl hi hT hv).mono fun _ _ ⟨h1, h2⟩ => ⟨h1, x.join h2⟩
theorem kcl_in {w wr : World} {M G P o : Nat} {X : List Nat} {T : Int} {c : Array Value} {t : TypeId} {K : Cf} {s : Km} (x : InA w wr M G K.N X T P c t) (hs : KmAt c o K s) (hl : s.who < 64) (a b : Nat) :
    Calls Tryd.prog 15 #[.pointer (some ⟨P, o, none⟩), .int .i64 (a : Nat), .int .i64 (b : Nat)] wr fun r w' => r = .returned (.int .i64 ((s.cl K a b).1 : Nat)) ∧ ∃ c', InA w w' M G K.N X T P c' t ∧ KmAt c' o K (s.cl K a b).2 ∧ Same c c' o (o + 91) :=
  (kcl_as x.restart hs hl a b).mono fun _ _ ⟨h1, c'', h2, h3, h4⟩ => ⟨h1, c'', x.join h2, h3, h4⟩
def Km.orN (p : Bool × Km) (q : Nat) : Km := if p.1 = true then p.2 else { p.2 with pc := q }
def Km.lsl (s : Km) (K : Cf) (W : Nat) : Km := Km.orN (({ s with nx := s.nx + 1 } : Km).bg K s.nx W) ((({ s with nx := s.nx + 1 } : Km).bg K s.nx W).2.ns K)
set_option maxHeartbeats 4000000 in
theorem kslot_as {w : World} {M G P o : Nat} {X : List Nat} {T : Int} {c : Array Value} {t : TypeId} {K : Cf} {s : Km} (hK : K.Ok) (is : InA w w M G K.N X T P c t) (hs : KmAt c o K s) (hx : s.nx < K.S) (hT : T + 1 < 4611686018427387904) :
    Calls Tryd.prog 35 #[.pointer (some ⟨P, o, none⟩), .pointer (some ⟨M, 0, none⟩)] w fun r w' => r = .returned (.tuple #[]) ∧ ∃ c', InA w w' M G K.N X (T + 1) P c' t ∧ KmAt c' o K (s.lsl K (X.getD (K.hd s.nx) 0)) ∧ Same c c' o (o + 91) := by
  have n1 := hs.put_nx (s.nx + 1)
  have h64 := hK.s64
  have e1 : IntKind.i64.wrap ((s.nx : Int) + 1) = (s.nx : Int) + 1 := by rw [IntKind.wrap_i64]; omega
  have e5 : ((s.nx + 1 : Nat) : Int) = (s.nx : Int) + 1 := by omega
  rw [e5] at n1
  have s1 : Same c (c.setIfInBounds (o + 86) (.int .i64 ((s.nx : Int) + 1))) o (o + 91) := Same.set _ _ (by omega)
  have c65 := fun wr (x : InA w wr M G K.N X T P (c.setIfInBounds (o + 86) (.int .i64 ((s.nx : Int) + 1))) t) => kbegin_in hK x n1 hx hT rfl
  unfold Km.lsl
  generalize ({ s with nx := s.nx + 1 } : Km).bg K s.nx (X.getD (K.hd s.nx) 0) = p at *
  obtain ⟨b, p⟩ := p
  have c66 : ∀ wr c', InA w wr M G K.N X (T + 1) P c' t → KmAt c' o K p → Calls Tryd.prog 66 #[.pointer (some ⟨P, o, none⟩)] wr fun r w' => r = .returned (.int .i64 (p.ns K : Nat)) ∧ InA w w' M G K.N X (T + 1) P c' t := fun wr c' x y => (kns_as x.restart y).mono fun _ _ ⟨h1, h2⟩ => ⟨h1, x.join h2⟩
  have h9 : ∀ wr c', InA w wr M G K.N X (T + 1) P c' t → KmAt c' o K p → wr.cell? ⟨P, o + 9, none⟩ = some (.int .i64 (p.pc : Nat)) ∧ wr.frozen? ⟨P, o + 9, none⟩ = false := fun wr c' x y => ⟨x.cell y.pc, x.free _⟩
  have hq : ∀ c', KmAt c' o K p → KmAt (c'.setIfInBounds (o + 9) (.int .i64 (p.ns K : Nat))) o K { p with pc := p.ns K } := fun c' y => y.put_pc _
  have l86 := is.cell hs.nx
  have f86 := is.free (o + 86)
  replace is := is.set (o + 86) (.int .i64 ((s.nx : Int) + 1))
  clear hs hx n1 e5 h64 hK
  simp only at *
  generalize p.ns K = q at *
  cases b
  · show Calls _ _ _ _ fun r w' => r = .returned (.tuple #[]) ∧ ∃ c', InA w w' M G K.N X (T + 1) P c' t ∧ KmAt c' o K { p with pc := q } ∧ Same c c' o (o + 91)
    go_enter Tryd.func35, Tryd.ntmps35
    go_upto_region 2 with fail
    clear l86 f86 e1
    generalize World.setCell _ _ _ = w1 at *
    have cc := c65 _ is
    clear c65
    go_wp2_with (first
      | (go_at_call 65; with_reducible refine cc.mono ?_; rintro e w3 ⟨rfl, c3, i3, n3, s3⟩; have cd := c66 _ _ i3 n3)
      | (go_at_call 66; with_reducible refine cd.mono ?_; rintro e w4 ⟨rfl, i4⟩; obtain ⟨l9, f9⟩ := h9 _ _ i4 n3))
    go_end0
    exact ⟨rfl, _, i4.set _ _, hq _ n3, (s1.trans s3).trans (Same.set _ _ (by omega))⟩
  · show Calls _ _ _ _ fun r w' => r = .returned (.tuple #[]) ∧ ∃ c', InA w w' M G K.N X (T + 1) P c' t ∧ KmAt c' o K p ∧ Same c c' o (o + 91)
    go_enter Tryd.func35, Tryd.ntmps35
    go_upto_region 2 with fail
    clear l86 f86 e1
    generalize World.setCell _ _ _ = w1 at *
    have cc := c65 _ is
    clear c65
    go_wp2_with (first
      | (go_at_call 65; with_reducible refine cc.mono ?_; rintro e w3 ⟨rfl, c3, i3, n3, s3⟩))
    go_end0
    exact ⟨rfl, _, i3, n3, s1.trans s3⟩

end Go.Proofs.YteechgmjaagbmaaDoor
