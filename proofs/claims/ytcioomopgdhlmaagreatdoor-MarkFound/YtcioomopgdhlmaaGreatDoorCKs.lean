/- Contracts of package shade's Step, wherever a Shade lies in a block. -/
import Derived.Test.YtcioomopgdhlmaaGreatDoorCKa
namespace Go.Proofs.YtcioomopgdhlmaaGreatDoor
open Go.RowKit
open Mm (IsMem MS touched Only IsWords)
open Hh (WT okW)

/-- A Shade's step on the words. -/
def sdX (X : List Nat) (s : Sd) : List Nat × Sd :=
  if s.pc = 0 then (X, { s with was := X.getD s.h 0, now := if canS (X.getD s.h 0) s.e then shN (X.getD s.h 0) s.e else X.getD s.h 0, pc := if canS (X.getD s.h 0) s.e then 1 else 4 })
  else if s.pc = 1 then (X.set 2 (Mm.sumW (X.getD 2 0) 1), { s with pc := 2 })
  else if s.pc = 2 then (if X.getD s.h 0 = s.was then (X.set s.h s.now, { s with gw := true, pc := 4 }) else (X, { s with pc := 3 }))
  else if s.pc = 3 then (X.set 2 (Mm.sumW (X.getD 2 0) 18446744073709551615), { s with pc := 0 })
  else (X, s)

set_option maxHeartbeats 2000000 in
theorem sdload {w : World} {M G N P o : Nat} {X : List Nat} {T : Int} {c : Array Value} {t : TypeId} {s : Sd} (is : InA w w M G N X T P c t) (hs : SdAt c o s) (hT : T + 1 < 4611686018427387904) (hL : s.h < N) {v v' : Nat} {z : Bool} (hv : X.getD s.h 0 = v)
    (c1 : ∀ w, WT w → Calls Tryz.prog 23 #[.int .u64 (v : Nat), .int .u64 (s.e : Nat)] w fun e w' => e = .returned (.tuple #[.int .u64 (v' : Nat), .bool z]) ∧ Below w.heap.size w w') :
    Calls Tryz.prog 100 #[.pointer (some ⟨P, o, none⟩), .pointer (some ⟨M, 0, none⟩)] w fun r w' => r = .returned (.tuple #[]) ∧ ∃ c', InA w w' M G N X (T + 1) P c' t ∧ SdAt c' o { s with was := v, now := v', pc := if z then 1 else 4 } ∧ Same c c' o (o + 5) := by
  have htb := is.tb
  have hlen := is.len
  have c0 : Calls Tryz.prog 63 #[.pointer (some ⟨M, 0, none⟩), .int .i64 (s.h : Nat)] w fun e w' => e = .returned (.int .u64 (v : Nat)) ∧ InA w w' M G N X (T + 1) P c t :=
    (loadX is.mem (by rw [hlen]; exact hL) htb hv).mono fun e w' ⟨h1, h2, h3⟩ => ⟨h1, is.only h2 h3 hlen (by omega)⟩
  have n1 := hs.put_was v
  have n2 := n1.put_now v'
  have n3 := n2.put_pc 1
  have n4 := n3.put_pc 4
  have l1 := is.cell hs.h
  have h4 : ∀ wr T, InA w wr M G N X T P c t → wr.cell? ⟨P, o + 4, none⟩ = some (.int .u64 (s.was : Nat)) ∧ wr.frozen? ⟨P, o + 4, none⟩ = false := fun wr T x => ⟨x.cell hs.was, x.free _⟩
  have hr3 : ∀ wr T, InA w wr M G N X T P (c.setIfInBounds (o + 4) (.int .u64 (v : Nat))) t → wr.cell? ⟨P, o + 2, none⟩ = some (.int .u64 (s.e : Nat)) ∧ wr.cell? ⟨P, o + 4, none⟩ = some (.int .u64 (v : Nat)) := fun wr T x => ⟨x.cell n1.e, x.cell n1.was⟩
  have hr4 : ∀ wr T, InA w wr M G N X T P (c.setIfInBounds (o + 4) (.int .u64 (v : Nat))) t → wr.cell? ⟨P, o + 5, none⟩ = some (.int .u64 (s.now : Nat)) ∧ wr.frozen? ⟨P, o + 5, none⟩ = false := fun wr T x => ⟨x.cell n1.now, x.free _⟩
  have hr5 : ∀ wr T, InA w wr M G N X T P ((c.setIfInBounds (o + 4) (.int .u64 (v : Nat))).setIfInBounds (o + 5) (.int .u64 (v' : Nat))) t → wr.cell? ⟨P, o + 2, none⟩ = some (.int .u64 (s.e : Nat)) ∧ wr.cell? ⟨P, o + 4, none⟩ = some (.int .u64 (v : Nat)) := fun wr T x => ⟨x.cell n2.e, x.cell n2.was⟩
  have s3 : Same c (((c.setIfInBounds (o + 4) (.int .u64 (v : Nat))).setIfInBounds (o + 5) (.int .u64 (v' : Nat))).setIfInBounds (o + 3) (.int .i64 1)) o (o + 5) := ((Same.set _ _ (by omega)).trans (Same.set _ _ (by omega))).trans (Same.set _ _ (by omega))
  obtain ⟨gw, h, e, pc, was, now⟩ := s
  simp only at *
  clear hv hL hs is
  go_enter Tryz.func100, Tryz.ntmps100
  go_upto_region 2 with (go_at_call 63; with_reducible refine c0.mono ?_; rintro e w3 ⟨rfl, is⟩; obtain ⟨l4, f4⟩ := h4 _ _ is)
  have i2 := is.set (o + 4) (.int .u64 (v : Nat))
  clear is l4 f4 h4 c0 l1
  generalize w3.setCell ⟨P, o + 4, none⟩ (.int .u64 (v : Nat)) = w4 at *
  replace i2 := i2.drew
  obtain ⟨l11, f11⟩ := hr4 _ _ i2
  go_region_held (fun wr => wr.cell? ⟨P, o + 2, none⟩ = some (.int .u64 (e : Nat)) ∧ wr.cell? ⟨P, o + 4, none⟩ = some (.int .u64 (v : Nat))) (first | (with_reducible exact hr3 _ _ i2) | (with_reducible exact hr5 _ _ (i2.set (o + 5) (.int .u64 (v' : Nat))))) (first
    | (go_at_call 23; with_reducible refine (c1 _ i2.wt).mono ?_; rintro e w5 ⟨rfl, b⟩; replace i2 := i2.below b; clear l11 f11; obtain ⟨l11, f11⟩ := hr4 _ _ i2))
  have i3 := i2.set (o + 5) (.int .u64 (v' : Nat))
  clear i2 l11 f11 hr3 hr4 hr5 c1
  go_upto_region 3 with fail
  generalize w5.setCell ⟨P, o + 5, none⟩ (.int .u64 (v' : Nat)) = w6 at *
  have l8 := i3.cell n2.pc
  have f8 := i3.free (o + 3)
  replace i3 := i3.set (o + 3) (.int .i64 1)
  go_upto_region 4 with fail
  clear l8 f8
  generalize w6.setCell ⟨P, o + 3, none⟩ (.int .i64 1) = w7 at *
  cases z
  · have l8 := i3.cell n3.pc
    have f8 := i3.free (o + 3)
    replace i3 := i3.set (o + 3) (.int .i64 4)
    go_wp2
    go_end0
    exact ⟨rfl, _, i3, n4, s3.trans (Same.set _ _ (by omega))⟩
  · go_wp2
    go_end0
    exact ⟨rfl, _, i3, n3, s3⟩

theorem SdAt.rd {w wr : World} {M G N P : Nat} {X : List Nat} {T : Int} {c : Array Value} {t : TypeId} {o : Nat} {s : Sd} (h : SdAt c o s) (is : InA w wr M G N X T P c t) :
    wr.cell? ⟨P, o + 1, none⟩ = some (.int .i64 (s.h : Nat)) ∧ wr.cell? ⟨P, o + 4, none⟩ = some (.int .u64 (s.was : Nat)) ∧ wr.cell? ⟨P, o + 5, none⟩ = some (.int .u64 (s.now : Nat)) :=
  ⟨is.cell h.h, is.cell h.was, is.cell h.now⟩

set_option maxHeartbeats 2000000 in
theorem sdswap_yes {w : World} {M G N P o : Nat} {X : List Nat} {T : Int} {c : Array Value} {t : TypeId} {s : Sd} (is : InA w w M G N X T P c t) (hs : SdAt c o s) (hT : T + 1 < 4611686018427387904) (hL : s.h < N) (hv : X.getD s.h 0 = s.was) (hn : s.now < 18446744073709551616) :
    Calls Tryz.prog 101 #[.pointer (some ⟨P, o, none⟩), .pointer (some ⟨M, 0, none⟩)] w fun r w' => r = .returned (.tuple #[]) ∧ ∃ c', InA w w' M G N (X.set s.h s.now) (T + 1) P c' t ∧ SdAt c' o { s with gw := true, pc := 4 } ∧ Same c c' o (o + 5) := by
  have htb := is.tb
  have hlen := is.len
  have c0 : ∀ wr c, InA w wr M G N X T P c t → Calls Tryz.prog 104 #[.pointer (some ⟨M, 0, none⟩), .int .i64 (s.h : Nat), .int .u64 (s.was : Nat), .int .u64 (s.now : Nat)] wr fun e w' => e = .returned (.bool true) ∧ InA w w' M G N (X.set s.h s.now) (T + 1) P c t := fun wr c x =>
    (swapX_yes x.mem (by rw [hlen]; exact hL) hn hv htb).mono fun e w' ⟨h1, h2, h3⟩ => ⟨h1, x.only h2 h3 (by rw [List.length_set]; exact hlen) (by omega)⟩
  have n1 := hs.put_pc 3
  have n2 := n1.put_gw true
  have n3 := n2.put_pc 4
  have hrd : ∀ wr X T, InA w wr M G N X T P (c.setIfInBounds (o + 3) (.int .i64 3)) t → _ := fun wr X T x => n1.rd x
  have s3 : Same c (((c.setIfInBounds (o + 3) (.int .i64 3)).setIfInBounds o (.bool true)).setIfInBounds (o + 3) (.int .i64 4)) o (o + 5) := ((Same.set _ _ (by omega)).trans (Same.set _ _ (by omega))).trans (Same.set _ _ (by omega))
  have l8 := is.cell hs.pc
  have f8 := is.free (o + 3)
  replace is := is.set (o + 3) (.int .i64 3)
  obtain ⟨gw, h, e, pc, was, now⟩ := s
  simp only at *
  clear hv hL hs hn
  go_enter Tryz.func101, Tryz.ntmps101
  go_upto_region 1 with fail
  clear l8 f8
  generalize w.setCell ⟨P, o + 3, none⟩ (.int .i64 3) = w2 at *
  replace is := is.drew
  go_region_held (fun wr => wr.cell? ⟨P, o + 1, none⟩ = some (.int .i64 (h : Nat)) ∧ wr.cell? ⟨P, o + 4, none⟩ = some (.int .u64 (was : Nat)) ∧ wr.cell? ⟨P, o + 5, none⟩ = some (.int .u64 (now : Nat))) (with_reducible exact hrd _ _ _ is) (first
    | (go_at_call 104; with_reducible refine (c0 _ _ is).mono ?_; rintro e w3 ⟨rfl, i1⟩; clear is; have is := i1; clear i1))
  clear hrd c0
  have l0 := is.cell n1.gw
  have f0 := is.free o
  simp only at l0
  replace is := is.set o (.bool true)
  go_upto_region 3 with fail
  clear l0 f0
  generalize w3.setCell ⟨P, o, none⟩ (.bool true) = w4 at *
  have l8 := is.cell n2.pc
  have f8 := is.free (o + 3)
  replace is := is.set (o + 3) (.int .i64 4)
  go_wp2
  go_end0
  exact ⟨rfl, _, is, n3, s3⟩

set_option maxHeartbeats 2000000 in
theorem sdswap_no {w : World} {M G N P o : Nat} {X : List Nat} {T : Int} {c : Array Value} {t : TypeId} {s : Sd} (is : InA w w M G N X T P c t) (hs : SdAt c o s) (hT : T + 1 < 4611686018427387904) (hL : s.h < N) (hv : X.getD s.h 0 ≠ s.was) :
    Calls Tryz.prog 101 #[.pointer (some ⟨P, o, none⟩), .pointer (some ⟨M, 0, none⟩)] w fun r w' => r = .returned (.tuple #[]) ∧ ∃ c', InA w w' M G N X (T + 1) P c' t ∧ SdAt c' o { s with pc := 3 } ∧ Same c c' o (o + 5) := by
  have htb := is.tb
  have hlen := is.len
  have c0 : ∀ wr c, InA w wr M G N X T P c t → Calls Tryz.prog 104 #[.pointer (some ⟨M, 0, none⟩), .int .i64 (s.h : Nat), .int .u64 (s.was : Nat), .int .u64 (s.now : Nat)] wr fun e w' => e = .returned (.bool false) ∧ InA w w' M G N X (T + 1) P c t := fun wr c x =>
    (swapX_no x.mem (by rw [hlen]; exact hL) hv htb).mono fun e w' ⟨h1, h2, h3⟩ => ⟨h1, x.only h2 h3 hlen (by omega)⟩
  have n1 := hs.put_pc 3
  have hrd : ∀ wr X T, InA w wr M G N X T P (c.setIfInBounds (o + 3) (.int .i64 3)) t → _ := fun wr X T x => n1.rd x
  have s3 : Same c (c.setIfInBounds (o + 3) (.int .i64 3)) o (o + 5) := Same.set _ _ (by omega)
  have l8 := is.cell hs.pc
  have f8 := is.free (o + 3)
  replace is := is.set (o + 3) (.int .i64 3)
  obtain ⟨gw, h, e, pc, was, now⟩ := s
  simp only at *
  clear hv hL hs
  go_enter Tryz.func101, Tryz.ntmps101
  go_upto_region 1 with fail
  clear l8 f8
  generalize w.setCell ⟨P, o + 3, none⟩ (.int .i64 3) = w2 at *
  replace is := is.drew
  go_region_held (fun wr => wr.cell? ⟨P, o + 1, none⟩ = some (.int .i64 (h : Nat)) ∧ wr.cell? ⟨P, o + 4, none⟩ = some (.int .u64 (was : Nat)) ∧ wr.cell? ⟨P, o + 5, none⟩ = some (.int .u64 (now : Nat))) (with_reducible exact hrd _ _ _ is) (first
    | (go_at_call 104; with_reducible refine (c0 _ _ is).mono ?_; rintro e w3 ⟨rfl, i1⟩; clear is; have is := i1; clear i1))
  clear hrd c0
  go_wp2
  go_end0
  exact ⟨rfl, _, is, n1, s3⟩

set_option maxHeartbeats 2000000 in
theorem sd_call {w : World} {M G N P o : Nat} {X X' : List Nat} {T T' : Int} {c : Array Value} {t : TypeId} {m m' : Sd} {fn : Nat} (is : InA w w M G N X T P c t) (hm : SdAt c o m) (h1 : m.pc = 0 ∧ fn = 100 ∨ m.pc = 2 ∧ fn = 101)
    (c0 : Calls Tryz.prog fn #[.pointer (some ⟨P, o, none⟩), .pointer (some ⟨M, 0, none⟩)] w fun r w' => r = .returned (.tuple #[]) ∧ ∃ c', InA w w' M G N X' T' P c' t ∧ SdAt c' o m' ∧ Same c c' o (o + 5)) :
    Calls Tryz.prog 86 #[.pointer (some ⟨P, o, none⟩), .pointer (some ⟨M, 0, none⟩)] w fun r w' => r = .returned (.bool (decide (m'.pc = 4))) ∧ ∃ c', InA w w' M G N X' T' P c' t ∧ SdAt c' o m' ∧ Same c c' o (o + 5) := by
  have l8 := is.cell hm.pc
  have hd : ((m'.pc : Int) == 4) = decide (m'.pc = 4) := by by_cases e : m'.pc = 4 <;> simp [e]; omega
  rw [← hd]
  rcases h1 with ⟨h1, rfl⟩ | ⟨h1, rfl⟩
  all_goals
    rw [h1] at l8
    clear hm hd h1 is
    go_enter Tryz.func86, Tryz.ntmps86
    go_wp2_with (first
      | (go_at_call 100; refine c0.mono ?_; rintro e w1 ⟨rfl, c1, i1, p1, s1⟩; have m8 := i1.cell p1.pc)
      | (go_at_call 101; refine c0.mono ?_; rintro e w1 ⟨rfl, c1, i1, p1, s1⟩; have m8 := i1.cell p1.pc))
    go_ret
    exact ⟨rfl, c1, i1, p1, s1⟩

set_option maxHeartbeats 2000000 in
theorem sd_add {w : World} {M G N P o : Nat} {X : List Nat} {T : Int} {c : Array Value} {t : TypeId} {s : Sd} (is : InA w w M G N X T P c t) (hs : SdAt c o s) (hT : T + 1 < 4611686018427387904) (h2 : 2 < N) {v sm q : Nat} (h1 : s.pc = 1 ∧ v = 1 ∧ q = 2 ∨ s.pc = 3 ∧ v = 18446744073709551615 ∧ q = 0) (hv : Mm.sumW (X.getD 2 0) v = sm) :
    Calls Tryz.prog 86 #[.pointer (some ⟨P, o, none⟩), .pointer (some ⟨M, 0, none⟩)] w fun r w' => r = .returned (.bool false) ∧ ∃ c', InA w w' M G N (X.set 2 sm) (T + 1) P c' t ∧ SdAt c' o { s with pc := q } ∧ Same c c' o (o + 5) := by
  have htb := is.tb
  have hlen := is.len
  have c0 : Calls Tryz.prog 94 #[.pointer (some ⟨M, 0, none⟩), .int .i64 ((2 : Nat) : Int), .int .u64 (v : Nat)] w fun e w' => e = .returned (.int .u64 (sm : Nat)) ∧ InA w w' M G N (X.set 2 sm) (T + 1) P c t :=
    (addX is.mem (by rw [hlen]; exact h2) htb hv).mono fun e w' ⟨h1, h2, h3⟩ => ⟨h1, is.only h2 h3 (by rw [List.length_set]; exact hlen) (by omega)⟩
  rw [show ((2 : Nat) : Int) = 2 from rfl] at c0
  have l8 := is.cell hs.pc
  have n1 := hs.put_pc q
  have s1 : Same c (c.setIfInBounds (o + 3) (.int .i64 (q : Nat))) o (o + 5) := Same.set _ _ (by omega)
  have h4 : ∀ wr T, InA w wr M G N (X.set 2 sm) T P c t → wr.cell? ⟨P, o + 3, none⟩ = some (.int .i64 (s.pc : Nat)) ∧ wr.frozen? ⟨P, o + 3, none⟩ = false := fun wr T x => ⟨x.cell hs.pc, x.free _⟩
  obtain ⟨gw, h, e, pc, was, now⟩ := s
  simp only at *
  clear hv hs is
  rcases h1 with ⟨rfl, rfl, rfl⟩ | ⟨rfl, rfl, rfl⟩
  · rw [show ((1 : Nat) : Int) = 1 from rfl] at *
    rw [show ((2 : Nat) : Int) = 2 from rfl] at *
    go_enter Tryz.func86, Tryz.ntmps86
    go_wp2_with (go_at_call 94; with_reducible refine c0.mono ?_; rintro e w3 ⟨rfl, is⟩; clear l8; obtain ⟨l4, f4⟩ := h4 _ _ is)
    go_ret
    exact ⟨rfl, _, is.set _ _, n1, s1⟩
  · rw [show ((18446744073709551615 : Nat) : Int) = 18446744073709551615 from rfl] at *
    rw [show ((3 : Nat) : Int) = 3 from rfl] at *
    rw [show ((0 : Nat) : Int) = 0 from rfl] at *
    go_enter Tryz.func86, Tryz.ntmps86
    go_wp2_with (go_at_call 94; with_reducible refine c0.mono ?_; rintro e w3 ⟨rfl, is⟩; clear l8; obtain ⟨l4, f4⟩ := h4 _ _ is)
    go_ret
    exact ⟨rfl, _, is.set _ _, n1, s1⟩

structure Sd.Ok (s : Sd) (N : Nat) : Prop where
  e : s.e < 18446744073709551616
  pc : s.pc ≤ 4
  h : s.h < N
  now : s.now < 18446744073709551616
theorem sdX_len (X : List Nat) (s : Sd) : (sdX X s).1.length = X.length := by
  unfold sdX
  repeat' split
  all_goals simp
theorem sdX_ok {X : List Nat} {s : Sd} {N : Nat} (h : s.Ok N) (hX : ∀ i, X.getD i 0 < 18446744073709551616) : (sdX X s).2.Ok N := by
  unfold sdX
  split
  · refine ⟨h.e, ?_, h.h, ?_⟩
    · show (if _ then 1 else 4) ≤ 4
      split <;> omega
    · show (if canS (X.getD s.h 0) s.e then shN (X.getD s.h 0) s.e else X.getD s.h 0) < _
      split
      · rename_i hc; exact (sh_facts (hX _) hc).1
      · exact hX _
  · split
    · exact ⟨h.e, by show 2 ≤ 4; omega, h.h, h.now⟩
    · split
      · split
        · exact ⟨h.e, by show 4 ≤ 4; omega, h.h, h.now⟩
        · exact ⟨h.e, by show 3 ≤ 4; omega, h.h, h.now⟩
      · split
        · exact ⟨h.e, by show 0 ≤ 4; omega, h.h, h.now⟩
        · exact h

/-- A Shade's step. -/
theorem sd_any {w : World} {M G N P o : Nat} {X : List Nat} {T : Int} {c : Array Value} {t : TypeId} {s : Sd} (is : InA w w M G N X T P c t) (hs : SdAt c o s) (hk : s.Ok N) (h3 : s.pc ≤ 3) (h2 : 2 < N) (hT : T + 1 < 4611686018427387904) :
    Calls Tryz.prog 86 #[.pointer (some ⟨P, o, none⟩), .pointer (some ⟨M, 0, none⟩)] w fun r w' => r = .returned (.bool (decide ((sdX X s).2.pc = 4))) ∧ ∃ c', InA w w' M G N (sdX X s).1 (T + 1) P c' t ∧ SdAt c' o (sdX X s).2 ∧ Same c c' o (o + 5) := by
  have hX := fun i => is.mem.fits i
  have hq : s.pc = 0 ∨ s.pc = 1 ∨ s.pc = 2 ∨ s.pc = 3 := by omega
  rcases hq with h | h | h | h
  · have e : sdX X s = (X, { s with was := X.getD s.h 0, now := if canS (X.getD s.h 0) s.e then shN (X.getD s.h 0) s.e else X.getD s.h 0, pc := if canS (X.getD s.h 0) s.e then 1 else 4 }) := by unfold sdX; rw [if_pos h]
    rw [e]
    exact sd_call is hs (.inl ⟨h, rfl⟩) (sdload is hs hT hk.h rfl (fun w hw => shaded_any (hX _) s.e hk.e w hw))
  · have e : sdX X s = (X.set 2 (Mm.sumW (X.getD 2 0) 1), { s with pc := 2 }) := by unfold sdX; rw [if_neg (by omega), if_pos h]
    rw [e]
    exact sd_add is hs hT h2 (.inl ⟨h, rfl, rfl⟩) rfl
  · by_cases hv : X.getD s.h 0 = s.was
    · have e : sdX X s = (X.set s.h s.now, { s with gw := true, pc := 4 }) := by unfold sdX; rw [if_neg (by omega), if_neg (by omega), if_pos h, if_pos hv]
      rw [e]
      exact sd_call is hs (.inr ⟨h, rfl⟩) (sdswap_yes is hs hT hk.h hv hk.now)
    · have e : sdX X s = (X, { s with pc := 3 }) := by unfold sdX; rw [if_neg (by omega), if_neg (by omega), if_pos h, if_neg hv]
      rw [e]
      exact sd_call is hs (.inr ⟨h, rfl⟩) (sdswap_no is hs hT hk.h hv)
  · have e : sdX X s = (X.set 2 (Mm.sumW (X.getD 2 0) 18446744073709551615), { s with pc := 0 }) := by unfold sdX; rw [if_neg (by omega), if_neg (by omega), if_neg (by omega), if_pos h]
    rw [e]
    exact sd_add is hs hT h2 (.inr ⟨h, rfl, rfl⟩) rfl
end Go.Proofs.YtcioomopgdhlmaaGreatDoor
