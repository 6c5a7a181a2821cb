/- Contracts of package sweep's Sweep, wherever it lies in a block. -/
import Derived.Test.YteechgmjaagbmabDoorAFree
import Derived.Test.YteechgmjaagbmabDoorDB
namespace Go.Proofs.YteechgmjaagbmabDoor
open Go.RowKit
open Mm (IsMem MS touched Only IsWords)
open Hh (WT wordOf okW Hr stampN)

/-- What a word is retired to. -/
def rtW (W e : Nat) : Nat := if canS W e = true then wordOf 3 (W / 8 % 2) 0 (W / 32 % 16) (W / 65536 % 4294967296) (stampN e) else W
theorem rtW_lt {W : Nat} (hW : W < 18446744073709551616) (e : Nat) : rtW W e < 18446744073709551616 := by
  unfold rtW
  split
  · unfold wordOf stampN; omega
  · exact hW
theorem retired_all (W : Nat) (hW : W < 18446744073709551616) (e : Nat) (he : e < 18446744073709551616) (w : World) (hw : WT w) :
    Calls Tryd.prog 48 #[.int .u64 (W : Nat), .int .u64 (e : Nat)] w fun r w' => r = .returned (.tuple #[.int .u64 (rtW W e : Nat), .bool (canS W e)]) ∧ Below w.heap.size w w' := by
  by_cases h : okW W = true
  · obtain ⟨K, M, gr, A, N, S, hr, rfl⟩ := Hh.okW_parts hW h
    obtain ⟨p0, p1, p2, p3, p4, p5, p6, p7⟩ := Hh.word_parts gr hr
    have hc : canS (wordOf K M gr.toNat A N S) e = Hh.whiteH K M e := by unfold canS; rw [h, p0, p1]; rfl
    cases hz : Hh.whiteH K M e
    · rw [hz] at hc
      have hf : rtW (wordOf K M gr.toNat A N S) e = wordOf K M gr.toNat A N S := by unfold rtW; rw [hc]; rfl
      rw [hc, hf]
      exact Hh.retired_not gr hr e he hz w hw
    · rw [hz] at hc
      have hf : rtW (wordOf K M gr.toNat A N S) e = wordOf 3 M (false : Bool).toNat A N (stampN e) := by unfold rtW; rw [if_pos hc, p1, p3, p5]; rfl
      rw [hc, hf]
      exact Hh.retired_word gr hr e he hz w hw
  · have h' : okW W = false := by simpa using h
    have hc : canS W e = false := by unfold canS; rw [h']; rfl
    have hf : rtW W e = W := by unfold rtW; rw [hc]; rfl
    rw [hc, hf]
    exact Hh.retired_bad hW h' e w hw

/-- What a Sweep holds. -/
structure Sw where
  gone : Nat
  e : Nat
  pc : Nat
  sl : Nat
  was : Nat
  now : Nat
structure SwAt (c : Array Value) (o : Nat) (K : Cf) (s : Sw) : Prop where
  gone : c[o]? = some (.int .i64 (s.gone : Nat))
  k0 : c[o + 1]? = some (.int .i64 (K.S : Nat))
  k1 : c[o + 2]? = some (.int .i64 K.a)
  k2 : c[o + 3]? = some (.int .i64 (K.C : Nat))
  k3 : c[o + 4]? = some (.int .i64 (K.D : Nat))
  k4 : c[o + 5]? = some (.int .i64 K.g)
  k5 : c[o + 6]? = some (.int .i64 K.k)
  e : c[o + 7]? = some (.int .u64 (s.e : Nat))
  pc : c[o + 8]? = some (.int .i64 (s.pc : Nat))
  sl : c[o + 9]? = some (.int .i64 (s.sl : Nat))
  was : c[o + 10]? = some (.int .u64 (s.was : Nat))
  now : c[o + 11]? = some (.int .u64 (s.now : Nat))
theorem SwAt.size {c : Array Value} {o : Nat} {K : Cf} {s : Sw} (h : SwAt c o K s) : o + 11 < c.size := lt_get h.now
theorem SwAt.put_gone {c : Array Value} {o : Nat} {K : Cf} {s : Sw} (h : SwAt c o K s) (v : Nat) : SwAt (c.setIfInBounds o (.int .i64 (v : Nat))) o K { s with gone := v } := by
  have := h.size
  exact ⟨get_set (by omega), (get_set_ne (by omega)).trans h.k0, (get_set_ne (by omega)).trans h.k1, (get_set_ne (by omega)).trans h.k2, (get_set_ne (by omega)).trans h.k3, (get_set_ne (by omega)).trans h.k4, (get_set_ne (by omega)).trans h.k5, (get_set_ne (by omega)).trans h.e, (get_set_ne (by omega)).trans h.pc, (get_set_ne (by omega)).trans h.sl, (get_set_ne (by omega)).trans h.was, (get_set_ne (by omega)).trans h.now⟩
theorem SwAt.put_pc {c : Array Value} {o : Nat} {K : Cf} {s : Sw} (h : SwAt c o K s) (v : Nat) : SwAt (c.setIfInBounds (o + 8) (.int .i64 (v : Nat))) o K { s with pc := v } := by
  have := h.size
  exact ⟨(get_set_ne (by omega)).trans h.gone, (get_set_ne (by omega)).trans h.k0, (get_set_ne (by omega)).trans h.k1, (get_set_ne (by omega)).trans h.k2, (get_set_ne (by omega)).trans h.k3, (get_set_ne (by omega)).trans h.k4, (get_set_ne (by omega)).trans h.k5, (get_set_ne (by omega)).trans h.e, get_set (by omega), (get_set_ne (by omega)).trans h.sl, (get_set_ne (by omega)).trans h.was, (get_set_ne (by omega)).trans h.now⟩
theorem SwAt.put_sl {c : Array Value} {o : Nat} {K : Cf} {s : Sw} (h : SwAt c o K s) (v : Nat) : SwAt (c.setIfInBounds (o + 9) (.int .i64 (v : Nat))) o K { s with sl := v } := by
  have := h.size
  exact ⟨(get_set_ne (by omega)).trans h.gone, (get_set_ne (by omega)).trans h.k0, (get_set_ne (by omega)).trans h.k1, (get_set_ne (by omega)).trans h.k2, (get_set_ne (by omega)).trans h.k3, (get_set_ne (by omega)).trans h.k4, (get_set_ne (by omega)).trans h.k5, (get_set_ne (by omega)).trans h.e, (get_set_ne (by omega)).trans h.pc, get_set (by omega), (get_set_ne (by omega)).trans h.was, (get_set_ne (by omega)).trans h.now⟩
theorem SwAt.put_was {c : Array Value} {o : Nat} {K : Cf} {s : Sw} (h : SwAt c o K s) (v : Nat) : SwAt (c.setIfInBounds (o + 10) (.int .u64 (v : Nat))) o K { s with was := v } := by
  have := h.size
  exact ⟨(get_set_ne (by omega)).trans h.gone, (get_set_ne (by omega)).trans h.k0, (get_set_ne (by omega)).trans h.k1, (get_set_ne (by omega)).trans h.k2, (get_set_ne (by omega)).trans h.k3, (get_set_ne (by omega)).trans h.k4, (get_set_ne (by omega)).trans h.k5, (get_set_ne (by omega)).trans h.e, (get_set_ne (by omega)).trans h.pc, (get_set_ne (by omega)).trans h.sl, get_set (by omega), (get_set_ne (by omega)).trans h.now⟩
theorem SwAt.put_now {c : Array Value} {o : Nat} {K : Cf} {s : Sw} (h : SwAt c o K s) (v : Nat) : SwAt (c.setIfInBounds (o + 11) (.int .u64 (v : Nat))) o K { s with now := v } := by
  have := h.size
  exact ⟨(get_set_ne (by omega)).trans h.gone, (get_set_ne (by omega)).trans h.k0, (get_set_ne (by omega)).trans h.k1, (get_set_ne (by omega)).trans h.k2, (get_set_ne (by omega)).trans h.k3, (get_set_ne (by omega)).trans h.k4, (get_set_ne (by omega)).trans h.k5, (get_set_ne (by omega)).trans h.e, (get_set_ne (by omega)).trans h.pc, (get_set_ne (by omega)).trans h.sl, (get_set_ne (by omega)).trans h.was, get_set (by omega)⟩

/-- The next slot. -/
def swNext (K : Cf) (s : Sw) : Sw := { s with sl := s.sl + 1, pc := if K.S ≤ s.sl + 1 then 2 else 0 }
/-- A Sweep's step on the words. -/
def swX (K : Cf) (X : List Nat) (s : Sw) : List Nat × Sw :=
  if s.pc = 0 then (X, if canS (X.getD (K.hd s.sl) 0) s.e = true then { s with was := X.getD (K.hd s.sl) 0, now := rtW (X.getD (K.hd s.sl) 0) s.e, pc := 1 } else swNext K { s with was := X.getD (K.hd s.sl) 0, now := X.getD (K.hd s.sl) 0 })
  else if s.pc = 1 then (if X.getD (K.hd s.sl) 0 = s.was then (X.set (K.hd s.sl) s.now, swNext K { s with gone := s.gone + 1 }) else (X, { s with pc := 0 }))
  else (X, s)
structure Sw.Ok (s : Sw) (K : Cf) : Prop where
  e : s.e < 18446744073709551616
  pc : s.pc ≤ 2
  sl : s.pc ≤ 1 → s.sl < K.S
  now : s.now < 18446744073709551616
  gone : s.gone ≤ 4611686018427387904

theorem SwAt.rd {w wr : World} {M G N P : Nat} {X : List Nat} {T : Int} {c : Array Value} {t : TypeId} {o : Nat} {K : Cf} {s : Sw} (h : SwAt c o K s) (is : InA w wr M G N X T P c t) :
    wr.cell? ⟨P, o + 1, none⟩ = some (.int .i64 (K.S : Nat)) ∧ wr.cell? ⟨P, o + 1 + 1, none⟩ = some (.int .i64 K.a) ∧ wr.cell? ⟨P, o + 1 + 2, none⟩ = some (.int .i64 (K.C : Nat)) ∧ wr.cell? ⟨P, o + 1 + 3, none⟩ = some (.int .i64 (K.D : Nat)) ∧ wr.cell? ⟨P, o + 1 + 4, none⟩ = some (.int .i64 K.g) ∧ wr.cell? ⟨P, o + 1 + 5, none⟩ = some (.int .i64 K.k) ∧ wr.cell? ⟨P, o + 9, none⟩ = some (.int .i64 (s.sl : Nat)) :=
  ⟨is.cell h.k0, is.cell h.k1, is.cell h.k2, is.cell h.k3, is.cell h.k4, is.cell h.k5, is.cell h.sl⟩

set_option maxHeartbeats 2000000 in
theorem snext_as {w : World} {M G N P o : Nat} {X : List Nat} {T : Int} {c : Array Value} {t : TypeId} {K : Cf} {s : Sw} (is : InA w w M G N X T P c t) (hs : SwAt c o K s) (hl : s.sl < 64) :
    Calls Tryd.prog 49 #[.pointer (some ⟨P, o, none⟩)] w fun r w' => r = .returned (.tuple #[]) ∧ ∃ c', InA w w' M G N X T P c' t ∧ SwAt c' o K (swNext K s) ∧ Same c c' o (o + 11) := by
  have n1 := hs.put_sl (s.sl + 1)
  have n2 := n1.put_pc 0
  have n3 := n2.put_pc 2
  have hz : ∀ wr c', InA w wr M G N X T P c' t → SwAt c' o K { s with sl := s.sl + 1, pc := 0 } → wr.cell? ⟨P, o + 1, none⟩ = some (.int .i64 (K.S : Nat)) ∧ wr.cell? ⟨P, o + 9, none⟩ = some (.int .i64 ((s.sl + 1 : Nat) : Int)) := fun wr c' x y => ⟨x.cell y.k0, x.cell y.sl⟩
  obtain ⟨fz, hfz⟩ : ∃ fz, swNext K s = fz := ⟨_, rfl⟩
  rw [hfz]
  obtain ⟨gone, e, pc, sl, was, now⟩ := s
  unfold swNext at hfz
  simp only at *
  have l9 := is.cell hs.sl
  have f9 := is.free (o + 9)
  simp only at l9
  have e1 : IntKind.i64.wrap ((sl : Int) + 1) = ((sl + 1 : Nat) : Int) := by rw [IntKind.wrap_i64]; omega
  replace is := is.set (o + 9) (.int .i64 ((sl + 1 : Nat) : Int))
  clear hs
  generalize hsl : sl + 1 = s1 at *
  go_enter Tryd.func49, Tryd.ntmps49
  go_upto_region 1 with fail
  clear l9 f9 e1
  generalize w.setCell ⟨P, o + 9, none⟩ (.int .i64 (s1 : Nat)) = w2 at *
  have l8 := is.cell n1.pc
  have f8 := is.free (o + 8)
  replace is := is.set (o + 8) (.int .i64 0)
  go_upto_region 2 with fail
  clear l8 f8
  generalize w2.setCell ⟨P, o + 8, none⟩ (.int .i64 0) = w3 at *
  obtain ⟨q1, q9⟩ := hz _ _ is n2
  have s3 : Same c ((c.setIfInBounds (o + 9) (.int .i64 (s1 : Nat))).setIfInBounds (o + 8) (.int .i64 0)) o (o + 11) := (Same.set _ _ (by omega)).trans (Same.set _ _ (by omega))
  clear hz
  by_cases hc : K.S ≤ s1
  · obtain rfl : fz = ⟨gone, e, 2, s1, was, now⟩ := by rw [← hfz, if_pos hc]
    have hc1 : (K.S : Int) ≤ (s1 : Int) := by omega
    have hc2 : decide ((K.S : Int) ≤ (s1 : Int)) = true := decide_eq_true hc1
    clear hc hl hsl hfz
    go_quiet (fail)
    replace is := is.below (below_drewN (Below.refl _ w3) nq)
    clear q1 q9
    generalize w3.drewN nq = w4 at *
    have l8 := is.cell n2.pc
    have f8 := is.free (o + 8)
    replace is := is.set (o + 8) (.int .i64 2)
    go_wp2
    go_end0
    exact ⟨rfl, _, is, n3, s3.trans (Same.set _ _ (by omega))⟩
  · obtain rfl : fz = ⟨gone, e, 0, s1, was, now⟩ := by rw [← hfz, if_neg hc]
    have hc1 : ¬ (K.S : Int) ≤ (s1 : Int) := by omega
    have hc2 : decide ((K.S : Int) ≤ (s1 : Int)) = false := decide_eq_false hc1
    clear hc hl hsl hfz
    go_quiet (fail)
    replace is := is.below (below_drewN (Below.refl _ w3) nq)
    clear q1 q9
    generalize w3.drewN nq = w4 at *
    go_wp2
    go_end0
    exact ⟨rfl, _, is, n2, s3⟩

set_option maxHeartbeats 4000000 in
theorem sload_as {w : World} {M G N P o : Nat} {X : List Nat} {T : Int} {c : Array Value} {t : TypeId} {K : Cf} {s : Sw} (is : InA w w M G N X T P c t) (hs : SwAt c o K s) (hl : s.sl < 64) (hT : T + 1 < 4611686018427387904) {L : Nat} (hL : L < N) {v : Nat} (hv : X.getD L 0 = v) {rt : Nat} {z : Bool}
    (c1 : ∀ w, Calls Tryd.prog 47 #[.agg K.cs, .int .i64 (s.sl : Nat)] w fun e w' => e = .returned (.int .i64 (L : Nat)) ∧ Below w.heap.size w w')
    (c2 : ∀ w, WT w → Calls Tryd.prog 48 #[.int .u64 (v : Nat), .int .u64 (s.e : Nat)] w fun e w' => e = .returned (.tuple #[.int .u64 (rt : Nat), .bool z]) ∧ Below w.heap.size w w') :
    Calls Tryd.prog 38 #[.pointer (some ⟨P, o, none⟩), .pointer (some ⟨M, 0, none⟩)] w fun r w' => r = .returned (.tuple #[]) ∧ ∃ c', InA w w' M G N X (T + 1) P c' t ∧ SwAt c' o K (if z = true then { s with was := v, now := rt, pc := 1 } else swNext K { s with was := v, now := rt, pc := 1 }) ∧ Same c c' o (o + 11) := by
  have htb := is.tb
  have hlen := is.len
  have c0 : ∀ wr, InA w wr M G N X T P c t → Calls Tryd.prog 46 #[.pointer (some ⟨M, 0, none⟩), .int .i64 (L : Nat)] wr fun e w' => e = .returned (.int .u64 (v : Nat)) ∧ InA w w' M G N X (T + 1) P c t := fun wr x =>
    (loadX x.mem (by rw [hlen]; exact hL) htb hv).mono fun e w' ⟨h1, h2, h3⟩ => ⟨h1, x.only h2 h3 hlen (by omega)⟩
  have n1 := hs.put_was v
  have n2 := n1.put_now rt
  have n3 := n2.put_pc 1
  have hrd : ∀ wr T, InA w wr M G N X T P c t → _ := fun wr T x => hs.rd x
  have hr2 : ∀ wr T, InA w wr M G N X T P (c.setIfInBounds (o + 10) (.int .u64 (v : Nat))) t → _ := fun wr T x => n1.rd x
  have h10 : ∀ wr T, InA w wr M G N X T P c t → wr.cell? ⟨P, o + 10, none⟩ = some (.int .u64 (s.was : Nat)) ∧ wr.frozen? ⟨P, o + 10, none⟩ = false := fun wr T x => ⟨x.cell hs.was, x.free _⟩
  have hr3 : ∀ wr T, InA w wr M G N X T P (c.setIfInBounds (o + 10) (.int .u64 (v : Nat))) t → wr.cell? ⟨P, o + 7, none⟩ = some (.int .u64 (s.e : Nat)) ∧ wr.cell? ⟨P, o + 10, none⟩ = some (.int .u64 (v : Nat)) := fun wr T x => ⟨x.cell n1.e, x.cell n1.was⟩
  have hr4 : ∀ wr T, InA w wr M G N X T P (c.setIfInBounds (o + 10) (.int .u64 (v : Nat))) t → wr.cell? ⟨P, o + 11, none⟩ = some (.int .u64 (s.now : Nat)) ∧ wr.frozen? ⟨P, o + 11, none⟩ = false := fun wr T x => ⟨x.cell n1.now, x.free _⟩
  have hr5 : ∀ wr T, InA w wr M G N X T P ((c.setIfInBounds (o + 10) (.int .u64 (v : Nat))).setIfInBounds (o + 11) (.int .u64 (rt : Nat))) t → wr.cell? ⟨P, o + 7, none⟩ = some (.int .u64 (s.e : Nat)) ∧ wr.cell? ⟨P, o + 10, none⟩ = some (.int .u64 (v : Nat)) := fun wr T x => ⟨x.cell n2.e, x.cell n2.was⟩
  have c5 : ∀ wr c', InA w wr M G N X (T + 1) P c' t → SwAt c' o K { s with was := v, now := rt, pc := 1 } → Calls Tryd.prog 49 #[.pointer (some ⟨P, o, none⟩)] wr fun r w' => r = .returned (.tuple #[]) ∧ ∃ c'', InA w w' M G N X (T + 1) P c'' t ∧ SwAt c'' o K (swNext K { s with was := v, now := rt, pc := 1 }) ∧ Same c' c'' o (o + 11) := fun wr c' x y =>
    (snext_as x.restart y hl).mono fun r w' ⟨h1, c'', h2, h3, h4⟩ => ⟨h1, c'', x.join h2, h3, h4⟩
  have s3 : Same c (((c.setIfInBounds (o + 10) (.int .u64 (v : Nat))).setIfInBounds (o + 11) (.int .u64 (rt : Nat))).setIfInBounds (o + 8) (.int .i64 1)) o (o + 11) := ((Same.set _ _ (by omega)).trans (Same.set _ _ (by omega))).trans (Same.set _ _ (by omega))
  obtain ⟨fz, hfz⟩ : ∃ fz, (if z = true then { s with was := v, now := rt, pc := 1 } else swNext K { s with was := v, now := rt, pc := 1 } : Sw) = fz := ⟨_, rfl⟩
  rw [hfz]
  obtain ⟨gone, e, pc, sl, was, now⟩ := s
  unfold Cf.cs at *
  simp only at *
  clear hv hL hs hl
  go_enter Tryd.func38, Tryd.ntmps38
  go_upto_region 1 with fail
  replace is := is.drew
  obtain ⟨l10, f10⟩ := h10 _ _ is
  go_region_held (fun wr => wr.cell? ⟨P, o + 1, none⟩ = some (.int .i64 (K.S : Nat)) ∧ wr.cell? ⟨P, o + 1 + 1, none⟩ = some (.int .i64 K.a) ∧ wr.cell? ⟨P, o + 1 + 2, none⟩ = some (.int .i64 (K.C : Nat)) ∧ wr.cell? ⟨P, o + 1 + 3, none⟩ = some (.int .i64 (K.D : Nat)) ∧ wr.cell? ⟨P, o + 1 + 4, none⟩ = some (.int .i64 K.g) ∧ wr.cell? ⟨P, o + 1 + 5, none⟩ = some (.int .i64 K.k) ∧ wr.cell? ⟨P, o + 9, none⟩ = some (.int .i64 (sl : Nat))) (first | (with_reducible exact hrd _ _ is) | (with_reducible exact hr2 _ _ (is.set (o + 10) (.int .u64 (v : Nat))))) (first
    | (go_at_call 47; with_reducible refine (c1 _).mono ?_; rintro e w3 ⟨rfl, b⟩; replace is := is.below b; clear l10 f10; obtain ⟨l10, f10⟩ := h10 _ _ is)
    | (go_at_call 46; with_reducible refine (c0 _ is).mono ?_; rintro e w3 ⟨rfl, i1⟩; clear is l10 f10; have is := i1; clear i1; obtain ⟨l10, f10⟩ := h10 _ _ is))
  have i2 := is.set (o + 10) (.int .u64 (v : Nat))
  clear is l10 f10 h10 hrd hr2 c0 c1
  go_upto_region 2 with fail
  generalize w3.setCell ⟨P, o + 10, none⟩ (.int .u64 (v : Nat)) = w4 at *
  replace i2 := i2.drew
  obtain ⟨l11, f11⟩ := hr4 _ _ i2
  go_region_held (fun wr => wr.cell? ⟨P, o + 7, none⟩ = some (.int .u64 (e : Nat)) ∧ wr.cell? ⟨P, o + 10, none⟩ = some (.int .u64 (v : Nat))) (first | (with_reducible exact hr3 _ _ i2) | (with_reducible exact hr5 _ _ (i2.set (o + 11) (.int .u64 (rt : Nat))))) (first
    | (go_at_call 48; with_reducible refine (c2 _ i2.wt).mono ?_; rintro e w5 ⟨rfl, b⟩; replace i2 := i2.below b; clear l11 f11; obtain ⟨l11, f11⟩ := hr4 _ _ i2))
  have i3 := i2.set (o + 11) (.int .u64 (rt : Nat))
  clear i2 l11 f11 hr3 hr4 hr5 c2
  go_upto_region 3 with fail
  generalize w5.setCell ⟨P, o + 11, none⟩ (.int .u64 (rt : Nat)) = w6 at *
  have l8 := i3.cell n2.pc
  have f8 := i3.free (o + 8)
  replace i3 := i3.set (o + 8) (.int .i64 1)
  go_upto_region 4 with fail
  clear l8 f8
  generalize w6.setCell ⟨P, o + 8, none⟩ (.int .i64 1) = w7 at *
  cases z
  · obtain rfl : fz = swNext K ⟨gone, e, 1, sl, v, rt⟩ := by rw [← hfz]; rfl
    clear hfz
    have q5 := c5 _ _ i3 n3
    go_wp2_with (go_at_call 49; refine q5.mono ?_; rintro e w8 ⟨rfl, c8, i8, n8, s8⟩)
    go_end0
    exact ⟨rfl, _, i8, n8, s3.trans s8⟩
  · obtain rfl : fz = ⟨gone, e, 1, sl, v, rt⟩ := by rw [← hfz]; rfl
    clear hfz
    go_wp2
    go_end0
    exact ⟨rfl, _, i3, n3, s3⟩

theorem SwAt.rd2 {w wr : World} {M G N P : Nat} {X : List Nat} {T : Int} {c : Array Value} {t : TypeId} {o : Nat} {K : Cf} {s : Sw} (h : SwAt c o K s) (is : InA w wr M G N X T P c t) :
    wr.cell? ⟨P, o + 1, none⟩ = some (.int .i64 (K.S : Nat)) ∧ wr.cell? ⟨P, o + 1 + 1, none⟩ = some (.int .i64 K.a) ∧ wr.cell? ⟨P, o + 1 + 2, none⟩ = some (.int .i64 (K.C : Nat)) ∧ wr.cell? ⟨P, o + 1 + 3, none⟩ = some (.int .i64 (K.D : Nat)) ∧ wr.cell? ⟨P, o + 1 + 4, none⟩ = some (.int .i64 K.g) ∧ wr.cell? ⟨P, o + 1 + 5, none⟩ = some (.int .i64 K.k) ∧ wr.cell? ⟨P, o + 9, none⟩ = some (.int .i64 (s.sl : Nat)) ∧ wr.cell? ⟨P, o + 10, none⟩ = some (.int .u64 (s.was : Nat)) ∧ wr.cell? ⟨P, o + 11, none⟩ = some (.int .u64 (s.now : Nat)) :=
  ⟨is.cell h.k0, is.cell h.k1, is.cell h.k2, is.cell h.k3, is.cell h.k4, is.cell h.k5, is.cell h.sl, is.cell h.was, is.cell h.now⟩

set_option maxHeartbeats 4000000 in
theorem sswap_yes {w : World} {M G N P o : Nat} {X : List Nat} {T : Int} {c : Array Value} {t : TypeId} {K : Cf} {s : Sw} (is : InA w w M G N X T P c t) (hs : SwAt c o K s) (hl : s.sl < 64) (hg : s.gone < 4611686018427387904) (hT : T + 1 < 4611686018427387904) {L : Nat} (hL : L < N) (hv : X.getD L 0 = s.was) (hn : s.now < 18446744073709551616)
    (c1 : ∀ w, Calls Tryd.prog 47 #[.agg K.cs, .int .i64 (s.sl : Nat)] w fun e w' => e = .returned (.int .i64 (L : Nat)) ∧ Below w.heap.size w w') :
    Calls Tryd.prog 39 #[.pointer (some ⟨P, o, none⟩), .pointer (some ⟨M, 0, none⟩)] w fun r w' => r = .returned (.tuple #[]) ∧ ∃ c', InA w w' M G N (X.set L s.now) (T + 1) P c' t ∧ SwAt c' o K (swNext K { s with gone := s.gone + 1, pc := 0 }) ∧ Same c c' o (o + 11) := by
  have htb := is.tb
  have hlen := is.len
  have c0 : ∀ wr c, InA w wr M G N X T P c t → Calls Tryd.prog 50 #[.pointer (some ⟨M, 0, none⟩), .int .i64 (L : Nat), .int .u64 (s.was : Nat), .int .u64 (s.now : Nat)] wr fun e w' => e = .returned (.bool true) ∧ InA w w' M G N (X.set L s.now) (T + 1) P c t := fun wr c x =>
    (swapX_yes x.mem (by rw [hlen]; exact hL) hn hv htb).mono fun e w' ⟨h1, h2, h3⟩ => ⟨h1, x.only h2 h3 (by rw [List.length_set]; exact hlen) (by omega)⟩
  have n1 := hs.put_pc 0
  have n2 := n1.put_gone (s.gone + 1)
  have hrd : ∀ wr X T, InA w wr M G N X T P (c.setIfInBounds (o + 8) (.int .i64 0)) t → _ := fun wr X T x => n1.rd2 x
  have c5 : ∀ wr c', InA w wr M G N (X.set L s.now) (T + 1) P c' t → SwAt c' o K { s with gone := s.gone + 1, pc := 0 } → Calls Tryd.prog 49 #[.pointer (some ⟨P, o, none⟩)] wr fun r w' => r = .returned (.tuple #[]) ∧ ∃ c'', InA w w' M G N (X.set L s.now) (T + 1) P c'' t ∧ SwAt c'' o K (swNext K { s with gone := s.gone + 1, pc := 0 }) ∧ Same c' c'' o (o + 11) := fun wr c' x y =>
    (snext_as x.restart y hl).mono fun r w' ⟨h1, c'', h2, h3, h4⟩ => ⟨h1, c'', x.join h2, h3, h4⟩
  have s2 : Same c ((c.setIfInBounds (o + 8) (.int .i64 0)).setIfInBounds o (.int .i64 ((s.gone + 1 : Nat) : Int))) o (o + 11) := (Same.set _ _ (by omega)).trans (Same.set _ _ (by omega))
  have l8 := is.cell hs.pc
  have f8 := is.free (o + 8)
  replace is := is.set (o + 8) (.int .i64 0)
  obtain ⟨gone, e, pc, sl, was, now⟩ := s
  unfold Cf.cs at *
  simp only at *
  have e1 : IntKind.i64.wrap ((gone : Int) + 1) = ((gone + 1 : Nat) : Int) := by rw [IntKind.wrap_i64]; omega
  generalize hgg : gone + 1 = g1 at *
  clear hv hL hs hl hn hg hgg
  go_enter Tryd.func39, Tryd.ntmps39
  go_upto_region 1 with fail
  clear l8 f8
  generalize w.setCell ⟨P, o + 8, none⟩ (.int .i64 0) = w2 at *
  replace is := is.drew
  go_region_held (fun wr => wr.cell? ⟨P, o + 1, none⟩ = some (.int .i64 (K.S : Nat)) ∧ wr.cell? ⟨P, o + 1 + 1, none⟩ = some (.int .i64 K.a) ∧ wr.cell? ⟨P, o + 1 + 2, none⟩ = some (.int .i64 (K.C : Nat)) ∧ wr.cell? ⟨P, o + 1 + 3, none⟩ = some (.int .i64 (K.D : Nat)) ∧ wr.cell? ⟨P, o + 1 + 4, none⟩ = some (.int .i64 K.g) ∧ wr.cell? ⟨P, o + 1 + 5, none⟩ = some (.int .i64 K.k) ∧ wr.cell? ⟨P, o + 9, none⟩ = some (.int .i64 (sl : Nat)) ∧ wr.cell? ⟨P, o + 10, none⟩ = some (.int .u64 (was : Nat)) ∧ wr.cell? ⟨P, o + 11, none⟩ = some (.int .u64 (now : Nat))) (with_reducible exact hrd _ _ _ is) (first
    | (go_at_call 47; with_reducible refine (c1 _).mono ?_; rintro e w3 ⟨rfl, b⟩; replace is := is.below b)
    | (go_at_call 50; with_reducible refine (c0 _ _ is).mono ?_; rintro e w3 ⟨rfl, i1⟩; clear is; have is := i1; clear i1))
  clear hrd c0 c1
  have l0 := is.cell n1.gone
  have f0 := is.free o
  simp only at l0
  replace is := is.set o (.int .i64 (g1 : Nat))
  go_upto_region 3 with fail
  clear l0 f0 e1
  generalize w3.setCell ⟨P, o, none⟩ (.int .i64 (g1 : Nat)) = w4 at *
  have q5 := c5 _ _ is n2
  go_wp2_with (go_at_call 49; refine q5.mono ?_; rintro e w8 ⟨rfl, c8, i8, n8, s8⟩)
  go_end0
  exact ⟨rfl, _, i8, n8, s2.trans s8⟩

set_option maxHeartbeats 4000000 in
theorem sswap_no {w : World} {M G N P o : Nat} {X : List Nat} {T : Int} {c : Array Value} {t : TypeId} {K : Cf} {s : Sw} (is : InA w w M G N X T P c t) (hs : SwAt c o K s) (hT : T + 1 < 4611686018427387904) {L : Nat} (hL : L < N) (hv : X.getD L 0 ≠ s.was)
    (c1 : ∀ w, Calls Tryd.prog 47 #[.agg K.cs, .int .i64 (s.sl : Nat)] w fun e w' => e = .returned (.int .i64 (L : Nat)) ∧ Below w.heap.size w w') :
    Calls Tryd.prog 39 #[.pointer (some ⟨P, o, none⟩), .pointer (some ⟨M, 0, none⟩)] w fun r w' => r = .returned (.tuple #[]) ∧ ∃ c', InA w w' M G N X (T + 1) P c' t ∧ SwAt c' o K { s with pc := 0 } ∧ Same c c' o (o + 11) := by
  have htb := is.tb
  have hlen := is.len
  have c0 : ∀ wr c, InA w wr M G N X T P c t → Calls Tryd.prog 50 #[.pointer (some ⟨M, 0, none⟩), .int .i64 (L : Nat), .int .u64 (s.was : Nat), .int .u64 (s.now : Nat)] wr fun e w' => e = .returned (.bool false) ∧ InA w w' M G N X (T + 1) P c t := fun wr c x =>
    (swapX_no x.mem (by rw [hlen]; exact hL) hv htb).mono fun e w' ⟨h1, h2, h3⟩ => ⟨h1, x.only h2 h3 hlen (by omega)⟩
  have n1 := hs.put_pc 0
  have hrd : ∀ wr X T, InA w wr M G N X T P (c.setIfInBounds (o + 8) (.int .i64 0)) t → _ := fun wr X T x => n1.rd2 x
  have s2 : Same c (c.setIfInBounds (o + 8) (.int .i64 0)) o (o + 11) := Same.set _ _ (by omega)
  have l8 := is.cell hs.pc
  have f8 := is.free (o + 8)
  replace is := is.set (o + 8) (.int .i64 0)
  obtain ⟨gone, e, pc, sl, was, now⟩ := s
  unfold Cf.cs at *
  simp only at *
  clear hv hL hs
  go_enter Tryd.func39, Tryd.ntmps39
  go_upto_region 1 with fail
  clear l8 f8
  generalize w.setCell ⟨P, o + 8, none⟩ (.int .i64 0) = w2 at *
  replace is := is.drew
  go_region_held (fun wr => wr.cell? ⟨P, o + 1, none⟩ = some (.int .i64 (K.S : Nat)) ∧ wr.cell? ⟨P, o + 1 + 1, none⟩ = some (.int .i64 K.a) ∧ wr.cell? ⟨P, o + 1 + 2, none⟩ = some (.int .i64 (K.C : Nat)) ∧ wr.cell? ⟨P, o + 1 + 3, none⟩ = some (.int .i64 (K.D : Nat)) ∧ wr.cell? ⟨P, o + 1 + 4, none⟩ = some (.int .i64 K.g) ∧ wr.cell? ⟨P, o + 1 + 5, none⟩ = some (.int .i64 K.k) ∧ wr.cell? ⟨P, o + 9, none⟩ = some (.int .i64 (sl : Nat)) ∧ wr.cell? ⟨P, o + 10, none⟩ = some (.int .u64 (was : Nat)) ∧ wr.cell? ⟨P, o + 11, none⟩ = some (.int .u64 (now : Nat))) (with_reducible exact hrd _ _ _ is) (first
    | (go_at_call 47; with_reducible refine (c1 _).mono ?_; rintro e w3 ⟨rfl, b⟩; replace is := is.below b)
    | (go_at_call 50; with_reducible refine (c0 _ _ is).mono ?_; rintro e w3 ⟨rfl, i1⟩; clear is; have is := i1; clear i1))
  clear hrd c0 c1
  go_wp2
  go_end0
  exact ⟨rfl, _, is, n1, s2⟩

set_option maxHeartbeats 1000000 in
theorem sw_call {w : World} {M G N P o : Nat} {X X' : List Nat} {T T' : Int} {c : Array Value} {t : TypeId} {K : Cf} {m m' : Sw} {fn : Nat} (is : InA w w M G N X T P c t) (hm : SwAt c o K m) (h1 : m.pc = 0 ∧ fn = 38 ∨ m.pc = 1 ∧ fn = 39)
    (c0 : Calls Tryd.prog fn #[.pointer (some ⟨P, o, none⟩), .pointer (some ⟨M, 0, none⟩)] w fun r w' => r = .returned (.tuple #[]) ∧ ∃ c', InA w w' M G N X' T' P c' t ∧ SwAt c' o K m' ∧ Same c c' o (o + 11)) :
    Calls Tryd.prog 20 #[.pointer (some ⟨P, o, none⟩), .pointer (some ⟨M, 0, none⟩)] w fun r w' => r = .returned (.bool (decide (m'.pc = 2))) ∧ ∃ c', InA w w' M G N X' T' P c' t ∧ SwAt c' o K m' ∧ Same c c' o (o + 11) := by
  have l8 := is.cell hm.pc
  have hd : ((m'.pc : Int) == 2) = decide (m'.pc = 2) := by by_cases e : m'.pc = 2 <;> simp [e]; omega
  rw [← hd]
  rcases h1 with ⟨h1, rfl⟩ | ⟨h1, rfl⟩
  all_goals
    rw [h1] at l8
    clear hm hd h1 is
    go_enter Tryd.func20, Tryd.ntmps20
    go_wp2_with (first
      | (go_at_call 38; refine c0.mono ?_; rintro e w1 ⟨rfl, c1, i1, p1, s1⟩; have m8 := i1.cell p1.pc)
      | (go_at_call 39; refine c0.mono ?_; rintro e w1 ⟨rfl, c1, i1, p1, s1⟩; have m8 := i1.cell p1.pc))
    go_ret
    exact ⟨rfl, c1, i1, p1, s1⟩
set_option maxHeartbeats 1000000 in
theorem sw_end {w : World} {P o : Nat} (l8 : w.cell? ⟨P, o + 8, none⟩ = some (.int .i64 2)) (q : Value) :
    Calls Tryd.prog 20 #[.pointer (some ⟨P, o, none⟩), q] w fun r w' => r = .returned (.bool true) ∧ w = w' := by
  go_enter Tryd.func20, Tryd.ntmps20
  go_wp2
  go_ret
  exact ⟨rfl, rfl⟩
set_option maxHeartbeats 1000000 in
theorem sw_nil (q : Value) (w : World) : Calls Tryd.prog 20 #[.pointer none, q] w fun r w' => r = .returned (.bool true) ∧ w = w' := by
  go_enter Tryd.func20, Tryd.ntmps20
  go_wp2
  go_ret
  exact ⟨rfl, rfl⟩

/-- A Sweep's step. -/
theorem sw_any {w : World} {M G P o : Nat} {X : List Nat} {T : Int} {c : Array Value} {t : TypeId} {K : Cf} {s : Sw} (hK : K.Ok) (is : InA w w M G K.N X T P c t) (hs : SwAt c o K s) (hk : s.Ok K) (h2 : s.pc ≤ 1) (hg : s.gone < 4611686018427387904) (hT : T + 1 < 4611686018427387904) :
    Calls Tryd.prog 20 #[.pointer (some ⟨P, o, none⟩), .pointer (some ⟨M, 0, none⟩)] w fun r w' => r = .returned (.bool (decide ((swX K X s).2.pc = 2))) ∧ ∃ c', InA w w' M G K.N (swX K X s).1 (T + 1) P c' t ∧ SwAt c' o K (swX K X s).2 ∧ Same c c' o (o + 11) := by
  have hX := fun i => is.mem.fits i
  have hsl := hk.sl h2
  have h64 := hK.s64
  have h3 : s.pc = 0 ∨ s.pc = 1 := by omega
  rcases h3 with h | h
  · have e : swX K X s = (X, if canS (X.getD (K.hd s.sl) 0) s.e = true then { s with was := X.getD (K.hd s.sl) 0, now := rtW (X.getD (K.hd s.sl) 0) s.e, pc := 1 } else swNext K { s with was := X.getD (K.hd s.sl) 0, now := rtW (X.getD (K.hd s.sl) 0) s.e, pc := 1 }) := by
      unfold swX
      rw [if_pos h]
      by_cases hc : canS (X.getD (K.hd s.sl) 0) s.e = true
      · rw [if_pos hc, if_pos hc]
      · rw [if_neg hc, if_neg hc]
        unfold swNext rtW
        rw [if_neg hc]
    rw [e]
    exact sw_call is hs (.inl ⟨h, rfl⟩) (sload_as is hs (by omega) hT (K.hd_lt hsl) rfl (fun w => header_at hK hsl rfl w) (fun w hw => retired_all _ (hX _) s.e hk.e w hw))
  · by_cases hv : X.getD (K.hd s.sl) 0 = s.was
    · have e : swX K X s = (X.set (K.hd s.sl) s.now, swNext K { s with gone := s.gone + 1, pc := 0 }) := by
        unfold swX
        rw [if_neg (by omega), if_pos h, if_pos hv]
        rfl
      rw [e]
      exact sw_call is hs (.inr ⟨h, rfl⟩) (sswap_yes is hs (by omega) hg hT (K.hd_lt hsl) hv hk.now (fun w => header_at hK hsl rfl w))
    · have e : swX K X s = (X, { s with pc := 0 }) := by unfold swX; rw [if_neg (by omega), if_pos h, if_neg hv]
      rw [e]
      exact sw_call is hs (.inr ⟨h, rfl⟩) (sswap_no is hs hT (K.hd_lt hsl) hv (fun w => header_at hK hsl rfl w))
end Go.Proofs.YteechgmjaagbmabDoor
