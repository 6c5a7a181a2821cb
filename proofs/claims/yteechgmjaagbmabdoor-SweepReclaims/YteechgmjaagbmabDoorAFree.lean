/- Contracts of package arena's Free. -/
import Derived.Test.YteechgmjaagbmabDoorAPush
import Derived.Test.YteechgmjaagbmabDoorHC
namespace Go.Proofs.YteechgmjaagbmabDoor
open Go.RowKit
open Mm (IsMem MS touched Only IsWords)
open Hh (WT wordOf okW Hr)

/-- Whether a word is a Limbo slot's, and what it is freed to. -/
def limboW (W : Nat) : Bool := okW W && decide (W % 8 = 3)
def fdW (W : Nat) (g : Int) : Nat :=
  if limboW W = true then (if ((W / 65536 % 4294967296 : Nat) : Int) < 4294967295 ∧ ((W / 65536 % 4294967296 : Nat) : Int) + 1 < g then wordOf 0 0 (false : Bool).toNat 0 (W / 65536 % 4294967296 + 1) 0 else W + 1) else W
theorem freed_all (W : Nat) (hW : W < 18446744073709551616) (g : Int) (w : World) (hw : WT w) :
    Calls Tryd.prog 76 #[.int .u64 (W : Nat), .int .i64 g] w fun r w' => r = .returned (.tuple #[.int .u64 (fdW W g : Nat), .bool (limboW W)]) ∧ Below w.heap.size w w' := by
  by_cases h : okW W = true
  · obtain ⟨K, M, gr, A, N, S, hr, rfl⟩ := Hh.okW_parts hW h
    obtain ⟨p0, _, _, _, _, p5, _, _⟩ := Hh.word_parts gr hr
    by_cases hk : K = 3
    · subst hk
      have hl : limboW (wordOf 3 M gr.toNat A N S) = true := by unfold limboW; rw [h, p0]; rfl
      have hf : fdW (wordOf 3 M gr.toNat A N S) g = if (N : Int) < 4294967295 ∧ (N : Int) + 1 < g then wordOf 0 0 (false : Bool).toNat 0 (N + 1) 0 else wordOf 4 M gr.toNat A N S := by
        unfold fdW
        rw [if_pos hl, p5]
        have e : wordOf 3 M gr.toNat A N S + 1 = wordOf 4 M gr.toNat A N S := by unfold wordOf; omega
        rw [e]
      rw [hl, hf]
      by_cases hd : (N : Int) < 4294967295 ∧ (N : Int) + 1 < g
      · rw [if_pos hd]
        exact Hh.freed_free gr hr g hd.1 hd.2 w hw
      · rw [if_neg hd]
        exact Hh.freed_dead gr hr g (by have := hr.n; omega) w hw
    · have hl : limboW (wordOf K M gr.toNat A N S) = false := by unfold limboW; rw [h, p0]; simp [hk]
      have hf : fdW (wordOf K M gr.toNat A N S) g = wordOf K M gr.toNat A N S := by unfold fdW; rw [hl]; rfl
      rw [hl, hf]
      exact Hh.freed_not gr hr g hk w hw
  · have h' : okW W = false := by simpa using h
    have hl : limboW W = false := by unfold limboW; rw [h']; rfl
    have hf : fdW W g = W := by unfold fdW; rw [hl]; rfl
    rw [hl, hf]
    exact Hh.freed_bad hW h' g w hw
theorem fdW_lt {W : Nat} (hW : W < 18446744073709551616) (g : Int) : fdW W g < 18446744073709551616 := by
  unfold fdW limboW
  split
  · rename_i h
    simp only [Bool.and_eq_true, decide_eq_true_eq] at h
    split
    · unfold wordOf; simp only [Bool.toNat_false]; omega
    · omega
  · exact hW
/-- The kind that a word tells. -/
def kdW (W : Nat) : Nat := if okW W = true then W % 8 else 0
theorem unpack_kind (W : Nat) (hW : W < 18446744073709551616) : ∃ (m : Int) (g : Bool) (a n s : Int) (z : Bool), ∀ w, WT w → Calls Tryd.prog 51 #[.int .u64 (W : Nat)] w fun e w' => e = .returned (.tuple #[.agg #[.int .i64 (kdW W : Nat), .int .i64 m, .bool g, .int .i64 a, .int .i64 n, .int .i64 s], .bool z]) ∧ Below w.heap.size w w' := by
  by_cases h : okW W = true
  · obtain ⟨K, M, g, A, N, S, hr, rfl⟩ := Hh.okW_parts hW h
    have e : kdW (wordOf K M g.toNat A N S) = K := by
      unfold kdW
      rw [if_pos h]
      exact (Hh.word_parts g hr).1
    rw [e]
    exact ⟨_, _, _, _, _, _, fun w hw => Hh.unpack_word g hr w hw⟩
  · have h' : okW W = false := by simpa using h
    have e : kdW W = 0 := by unfold kdW; rw [if_neg h]
    rw [e]
    refine ⟨0, false, 0, 0, 0, false, fun w hw => ?_⟩
    have c := Hh.hunpack_any W hW w hw
    rw [Hh.unpV_bad h'] at c
    exact c

theorem Same.mono {c c' : Array Value} {a b a' b' : Nat} (h : Same c c' a b) (h1 : a' ≤ a) (h2 : b ≤ b') : Same c c' a' b' := ⟨h.size, fun i hi => h.out i (by omega)⟩
/-- What a Free holds. -/
structure Fr where
  back : Bool
  gone : Bool
  q : QS
  pc : Nat
  fd : Nat
structure FrAt (c : Array Value) (o : Nat) (K : Cf) (f : Fr) : Prop where
  back : c[o]? = some (.bool f.back)
  gone : c[o + 1]? = some (.bool f.gone)
  hd : c[o + 2]? = some (.int .i64 (K.hd f.q.sl : Nat))
  g : c[o + 3]? = some (.int .i64 K.g)
  q : PuAt c (o + 4) K f.q
  pc : c[o + 13]? = some (.int .i64 (f.pc : Nat))
  fd : c[o + 14]? = some (.int .u64 (f.fd : Nat))
theorem FrAt.size {c : Array Value} {o : Nat} {K : Cf} {f : Fr} (h : FrAt c o K f) : o + 14 < c.size := lt_get h.fd
theorem FrAt.push {c c' : Array Value} {o : Nat} {K : Cf} {f : Fr} {q : QS} (h : FrAt c o K f) (s : Same c c' (o + 4) (o + 4 + 8)) (hq : PuAt c' (o + 4) K q) (hs : q.sl = f.q.sl) : FrAt c' o K { f with q := q } :=
  ⟨(s.out _ (by omega)).trans h.back, (s.out _ (by omega)).trans h.gone, (s.out _ (by omega)).trans (by rw [hs]; exact h.hd), (s.out _ (by omega)).trans h.g, hq, (s.out _ (by omega)).trans h.pc, (s.out _ (by omega)).trans h.fd⟩
theorem FrAt.put_pc {c : Array Value} {o : Nat} {K : Cf} {f : Fr} (h : FrAt c o K f) (v : Nat) : FrAt (c.setIfInBounds (o + 13) (.int .i64 (v : Nat))) o K { f with pc := v } := by
  have := h.size
  exact ⟨(get_set_ne (by omega)).trans h.back, (get_set_ne (by omega)).trans h.gone, (get_set_ne (by omega)).trans h.hd, (get_set_ne (by omega)).trans h.g, h.q.same (Same.set c (a := o + 13) (b := o + 13) _ (by omega)) (by omega), get_set (by omega), (get_set_ne (by omega)).trans h.fd⟩
theorem FrAt.put_fd {c : Array Value} {o : Nat} {K : Cf} {f : Fr} (h : FrAt c o K f) (v : Nat) : FrAt (c.setIfInBounds (o + 14) (.int .u64 (v : Nat))) o K { f with fd := v } := by
  have := h.size
  exact ⟨(get_set_ne (by omega)).trans h.back, (get_set_ne (by omega)).trans h.gone, (get_set_ne (by omega)).trans h.hd, (get_set_ne (by omega)).trans h.g, h.q.same (Same.set c (a := o + 14) (b := o + 14) _ (by omega)) (by omega), (get_set_ne (by omega)).trans h.pc, get_set (by omega)⟩
theorem FrAt.put_back {c : Array Value} {o : Nat} {K : Cf} {f : Fr} (h : FrAt c o K f) (v : Bool) : FrAt (c.setIfInBounds o (.bool v)) o K { f with back := v } := by
  have := h.size
  exact ⟨get_set (by omega), (get_set_ne (by omega)).trans h.gone, (get_set_ne (by omega)).trans h.hd, (get_set_ne (by omega)).trans h.g, h.q.same (Same.set c (a := o) (b := o) _ (by omega)) (by omega), (get_set_ne (by omega)).trans h.pc, (get_set_ne (by omega)).trans h.fd⟩
theorem FrAt.put_gone {c : Array Value} {o : Nat} {K : Cf} {f : Fr} (h : FrAt c o K f) (v : Bool) : FrAt (c.setIfInBounds (o + 1) (.bool v)) o K { f with gone := v } := by
  have := h.size
  exact ⟨(get_set_ne (by omega)).trans h.back, get_set (by omega), (get_set_ne (by omega)).trans h.hd, (get_set_ne (by omega)).trans h.g, h.q.same (Same.set c (a := o + 1) (b := o + 1) _ (by omega)) (by omega), (get_set_ne (by omega)).trans h.pc, (get_set_ne (by omega)).trans h.fd⟩

/-- A Free's step on the words. -/
def frX (K : Cf) (X : List Nat) (f : Fr) : List Nat × Fr :=
  if f.pc = 0 then (X, { f with fd := fdW (X.getD (K.hd f.q.sl) 0) K.g, pc := if limboW (X.getD (K.hd f.q.sl) 0) = true then 1 else 3 })
  else if f.pc = 1 then (X.set (K.hd f.q.sl) f.fd, if kdW f.fd = 4 then { f with gone := true, pc := 3 } else { f with pc := 2 })
  else if f.pc = 2 then ((pushX K X f.q).1, if (pushX K X f.q).2.pc = 3 then { f with q := (pushX K X f.q).2, back := true, pc := 3 } else { f with q := (pushX K X f.q).2 })
  else (X, f)
structure Fr.Ok (f : Fr) (K : Cf) : Prop where
  wf : QWf K f.q
  pc : f.pc ≤ 3
  q2 : f.pc ≤ 2 → f.q.pc ≤ 2
  fd : f.fd < 18446744073709551616

theorem FrAt.rd {w wr : World} {M G N P : Nat} {X : List Nat} {T : Int} {c : Array Value} {o : Nat} {t : TypeId} {K : Cf} {f : Fr} (h : FrAt c o K f) (is : InA w wr M G N X T P c t) :
    wr.cell? ⟨P, o + 2, none⟩ = some (.int .i64 (K.hd f.q.sl : Nat)) ∧ wr.cell? ⟨P, o + 3, none⟩ = some (.int .i64 K.g) := ⟨is.cell h.hd, is.cell h.g⟩
theorem FrAt.rd2 {w wr : World} {M G N P : Nat} {X : List Nat} {T : Int} {c : Array Value} {o : Nat} {t : TypeId} {K : Cf} {f : Fr} (h : FrAt c o K f) (is : InA w wr M G N X T P c t) :
    wr.cell? ⟨P, o + 2, none⟩ = some (.int .i64 (K.hd f.q.sl : Nat)) ∧ wr.cell? ⟨P, o + 14, none⟩ = some (.int .u64 (f.fd : Nat)) := ⟨is.cell h.hd, is.cell h.fd⟩

set_option maxHeartbeats 4000000 in
theorem floadHeader_as {w : World} {M G N P : Nat} {X : List Nat} {T : Int} {c : Array Value} {o : Nat} {t : TypeId} {K : Cf} {f : Fr} (is : InA w w M G N X T P c t) (hf : FrAt c o K f) (hT : T + 1 < 4611686018427387904) {L : Nat} (hL : L < N) (hh : K.hd f.q.sl = L) {v : Nat} (hv : X.getD L 0 = v) {fd : Nat} {z : Bool}
    (c1 : ∀ w, WT w → Calls Tryd.prog 76 #[.int .u64 (v : Nat), .int .i64 K.g] w fun e w' => e = .returned (.tuple #[.int .u64 (fd : Nat), .bool z]) ∧ Below w.heap.size w w') :
    Calls Tryd.prog 63 #[.pointer (some ⟨P, o, none⟩), .pointer (some ⟨M, 0, none⟩)] w fun r w' => r = .returned (.tuple #[]) ∧ ∃ c', InA w w' M G N X (T + 1) P c' t ∧ FrAt c' o K { f with fd := fd, pc := if z = true then 1 else 3 } ∧ Same c c' o (o + 14) := by
  have htb := is.tb
  have hlen := is.len
  have c0 : ∀ wr, InA w wr M G N X T P c t → Calls Tryd.prog 46 #[.pointer (some ⟨M, 0, none⟩), .int .i64 (L : Nat)] wr fun e w' => e = .returned (.int .u64 (v : Nat)) ∧ InA w w' M G N X (T + 1) P c t := fun wr x =>
    (loadX x.mem (by rw [hlen]; exact hL) htb hv).mono fun e w' ⟨h1, h2, h3⟩ => ⟨h1, x.only h2 h3 hlen (by omega)⟩
  have n1 := hf.put_fd fd
  have n2 := n1.put_pc 1
  have n3 := n2.put_pc 3
  have hrd : ∀ wr T, InA w wr M G N X T P c t → _ := fun wr T x => hf.rd x
  have hset : ∀ wr T, InA w wr M G N X T P c t → _ := fun wr T x => n1.rd (x.set (o + 14) (.int .u64 (fd : Nat)))
  have h14 : ∀ wr T, InA w wr M G N X T P c t → wr.cell? ⟨P, o + 14, none⟩ = some (.int .u64 (f.fd : Nat)) ∧ wr.frozen? ⟨P, o + 14, none⟩ = false := fun wr T x => ⟨x.cell hf.fd, x.free (o + 14)⟩
  simp only at hset
  rw [hh] at hrd hset
  clear hh hv hL hf
  obtain ⟨pz, hpz⟩ : ∃ pz, (if z = true then 1 else 3) = pz := ⟨_, rfl⟩
  rw [hpz]
  go_enter Tryd.func63, Tryd.ntmps63
  go_upto_region 1 with fail
  replace is := is.drew
  obtain ⟨l14, f14⟩ := h14 _ _ is
  go_region_held (fun wr => wr.cell? ⟨P, o + 2, none⟩ = some (.int .i64 (L : Nat)) ∧ wr.cell? ⟨P, o + 3, none⟩ = some (.int .i64 K.g)) (first | (with_reducible exact hrd _ _ is) | (with_reducible exact hset _ _ is)) (first
    | (go_at_call 46; with_reducible refine (c0 _ is).mono ?_; rintro e w3 ⟨rfl, i1⟩; clear is l14 f14; have is := i1; clear i1; obtain ⟨l14, f14⟩ := h14 _ _ is)
    | (go_at_call 76; with_reducible refine (c1 _ is.wt).mono ?_; rintro e w3 ⟨rfl, b⟩; replace is := is.below b; clear l14 f14; obtain ⟨l14, f14⟩ := h14 _ _ is))
  all_goals
    have i2 := is.set (o + 14) (.int .u64 (fd : Nat))
    have l13 := i2.cell n1.pc
    have f13 := i2.free (o + 13)
    clear hrd hset h14 is c0 c1 l14 f14
    go_upto_region 2 with fail
    generalize w3.setCell ⟨P, o + 14, none⟩ (.int .u64 (fd : Nat)) = w5 at *
    replace i2 := i2.set (o + 13) (.int .i64 1)
    go_upto_region 3 with fail
    clear l13 f13
    generalize w5.setCell ⟨P, o + 13, none⟩ (.int .i64 1) = w6 at *
    have l13 := i2.cell n2.pc
    have f13 := i2.free (o + 13)
    cases z
    · obtain rfl : pz = 3 := by rw [← hpz]; rfl
      replace i2 := i2.set (o + 13) (.int .i64 3)
      go_wp2
      go_end0
      exact ⟨rfl, _, i2, n3, ((Same.set _ _ (by omega)).trans (Same.set _ _ (by omega))).trans (Same.set _ _ (by omega))⟩
    · obtain rfl : pz = 1 := by rw [← hpz]; rfl
      go_wp2
      go_end0
      exact ⟨rfl, _, i2, n2, (Same.set _ _ (by omega)).trans (Same.set _ _ (by omega))⟩

set_option maxHeartbeats 4000000 in
theorem fstoreHeader_as {w : World} {M G N P : Nat} {X : List Nat} {T : Int} {c : Array Value} {o : Nat} {t : TypeId} {K : Cf} {f : Fr} (is : InA w w M G N X T P c t) (hf : FrAt c o K f) (hT : T + 1 < 4611686018427387904) {L : Nat} (hL : L < N) (hh : K.hd f.q.sl = L) (h64 : f.fd < 18446744073709551616) :
    Calls Tryd.prog 64 #[.pointer (some ⟨P, o, none⟩), .pointer (some ⟨M, 0, none⟩)] w fun r w' => r = .returned (.tuple #[]) ∧ ∃ c', InA w w' M G N (X.set L f.fd) (T + 1) P c' t ∧ FrAt c' o K (if kdW f.fd = 4 then { f with gone := true, pc := 3 } else { f with pc := 2 }) ∧ Same c c' o (o + 14) := by
  have htb := is.tb
  have hlen := is.len
  obtain ⟨back, gone, q, pc, v⟩ := f
  simp only at *
  obtain ⟨m1, g1, a1, n1, s1, z1, c3⟩ := unpack_kind v h64
  have c0 : ∀ wr, InA w wr M G N X T P c t → Calls Tryd.prog 27 #[.pointer (some ⟨M, 0, none⟩), .int .i64 (L : Nat), .int .u64 (v : Nat)] wr fun e w' => e = .returned (.bool true) ∧ InA w w' M G N (X.set L v) (T + 1) P c t := fun wr x =>
    (storeX x.mem (by rw [hlen]; exact hL) h64 htb).mono fun e w' ⟨h1, h2, h3⟩ => ⟨h1, x.only h2 h3 (by rw [List.length_set]; exact hlen) (by omega)⟩
  have n2 := hf.put_pc 2
  have n3 := n2.put_gone true
  have n4 := n3.put_pc 3
  simp only at n2 n3 n4
  have hrd : ∀ wr X T, InA w wr M G N X T P c t → _ := fun wr X T x => hf.rd2 x
  have h13 : ∀ wr X T, InA w wr M G N X T P c t → wr.cell? ⟨P, o + 13, none⟩ = some (.int .i64 (pc : Nat)) ∧ wr.frozen? ⟨P, o + 13, none⟩ = false := fun wr X T x => ⟨x.cell hf.pc, x.free (o + 13)⟩
  simp only at hrd
  rw [hh] at hrd
  obtain ⟨fz, hfz⟩ : ∃ fz, (if kdW v = 4 then ⟨back, true, q, 3, v⟩ else ⟨back, gone, q, 2, v⟩ : Fr) = fz := ⟨_, rfl⟩
  rw [hfz]
  generalize hkd : kdW v = kd at *
  clear hh hL hf h64 hkd
  go_enter Tryd.func64, Tryd.ntmps64
  go_upto_region 0 with fail
  replace is := is.drew
  go_region_held (fun wr => wr.cell? ⟨P, o + 2, none⟩ = some (.int .i64 (L : Nat)) ∧ wr.cell? ⟨P, o + 14, none⟩ = some (.int .u64 (v : Nat))) (with_reducible exact hrd _ _ _ is) (first
    | (go_at_call 27; with_reducible refine (c0 _ is).mono ?_; rintro e w3 ⟨rfl, i1⟩; clear is; have is := i1; clear i1))
  obtain ⟨l13, f13⟩ := h13 _ _ _ is
  clear hrd h13 c0
  replace is := is.set (o + 13) (.int .i64 2)
  go_upto_region 2 with fail
  clear l13 f13
  generalize w3.setCell ⟨P, o + 13, none⟩ (.int .i64 2) = w4 at *
  have l14 := is.cell n2.fd
  simp only at l14
  go_upto_region 3 with (go_at_call 51; refine (c3 _ is.wt).mono ?_; rintro e w5 ⟨rfl, b⟩; replace is := is.below b)
  clear l14 c3 b
  have q0 : (w5.alloc (.cells #[.int .i64 (kd : Nat), .int .i64 m1, .bool g1, .int .i64 a1, .int .i64 n1, .int .i64 s1] 43)).cell? ⟨w5.heap.size, 0, none⟩ = some (.int .i64 (kd : Nat)) := Hh.new_at _ _ _ 0 _ rfl
  replace is := is.below (alloc_below w5 (.cells #[.int .i64 (kd : Nat), .int .i64 m1, .bool g1, .int .i64 a1, .int .i64 n1, .int .i64 s1] 43))
  generalize w5.heap.size = R at *
  generalize w5.alloc (.cells #[.int .i64 (kd : Nat), .int .i64 m1, .bool g1, .int .i64 a1, .int .i64 n1, .int .i64 s1] 43) = w6 at *
  by_cases hk : kd = 4
  · subst hk
    obtain rfl : fz = ⟨back, true, q, 3, v⟩ := by rw [← hfz]; rfl
    clear hfz
    have l1 := is.cell n2.gone
    have f1 := is.free (o + 1)
    replace is := is.set (o + 1) (.bool true)
    go_upto_region 5 with fail
    clear l1 f1 q0
    generalize w6.setCell ⟨P, o + 1, none⟩ (.bool true) = w7 at *
    have l13 := is.cell n3.pc
    have f13 := is.free (o + 13)
    replace is := is.set (o + 13) (.int .i64 3)
    go_wp2
    go_end0
    exact ⟨rfl, _, is, n4, ((Same.set _ _ (by omega)).trans (Same.set _ _ (by omega))).trans (Same.set _ _ (by omega))⟩
  · obtain rfl : fz = ⟨back, gone, q, 2, v⟩ := by rw [← hfz, if_neg hk]
    clear hfz
    have hk2 : ((kd : Int) == 4) = false := by simp; omega
    go_wp2
    go_end0
    exact ⟨rfl, _, is, n2, Same.set _ _ (by omega)⟩

set_option maxHeartbeats 2000000 in
theorem lay_as {w : World} {M G N P : Nat} {X' : List Nat} {T' : Int} {c : Array Value} {o : Nat} {t : TypeId} {K : Cf} {f : Fr} {q' : QS} (hf : FrAt c o K f) (hs : q'.sl = f.q.sl) {z : Bool} (hz : decide (q'.pc = 3) = z)
    (c0 : Calls Tryd.prog 77 #[.pointer (some ⟨P, o + 4, none⟩), .pointer (some ⟨M, 0, none⟩)] w fun r w' => r = .returned (.bool z) ∧ ∃ c', InA w w' M G N X' T' P c' t ∧ PuAt c' (o + 4) K q' ∧ Same c c' (o + 4) (o + 4 + 8)) :
    Calls Tryd.prog 65 #[.pointer (some ⟨P, o, none⟩), .pointer (some ⟨M, 0, none⟩)] w fun r w' => r = .returned (.tuple #[]) ∧ ∃ c', InA w w' M G N X' T' P c' t ∧ FrAt c' o K (if q'.pc = 3 then { f with q := q', back := true, pc := 3 } else { f with q := q' }) ∧ Same c c' o (o + 14) := by
  have hp : ∀ c', Same c c' (o + 4) (o + 4 + 8) → PuAt c' (o + 4) K q' → FrAt c' o K { f with q := q' } := fun c' s p => hf.push s p hs
  obtain ⟨fz, hfz⟩ : ∃ fz, (if q'.pc = 3 then { f with q := q', back := true, pc := 3 } else { f with q := q' } : Fr) = fz := ⟨_, rfl⟩
  rw [hfz]
  cases z
  · have h3 : ¬ q'.pc = 3 := by simpa using hz
    rw [if_neg h3] at hfz
    subst hfz
    clear hz h3 hs hf
    go_enter Tryd.func65, Tryd.ntmps65
    go_wp2_with (go_at_call 77; refine c0.mono ?_; rintro e w1 ⟨rfl, c1, i1, p1, s1⟩)
    go_end0
    exact ⟨rfl, c1, i1, hp _ s1 p1, s1.mono (by omega) (by omega)⟩
  · have h3 : q'.pc = 3 := by simpa using hz
    rw [if_pos h3] at hfz
    subst hfz
    clear hz h3 hs hf
    go_enter Tryd.func65, Tryd.ntmps65
    go_upto_region 1 with (go_at_call 77; refine c0.mono ?_; rintro e w1 ⟨rfl, c1, i1, p1, s1⟩)
    have n1 := hp _ s1 p1
    have n2 := n1.put_back true
    have n3 := n2.put_pc 3
    have s3 := ((s1.mono (a' := o) (b' := o + 14) (by omega) (by omega)).trans (Same.set c1 (i := o) (.bool true) (by omega))).trans (Same.set _ (i := o + 13) (.int .i64 3) (by omega))
    clear hp p1 s1 c0
    have l0 := i1.cell n1.back
    have f0 := i1.free o
    replace i1 := i1.set o (.bool true)
    go_upto_region 2 with fail
    clear l0 f0
    generalize w1.setCell ⟨P, o, none⟩ (.bool true) = w2 at *
    have l13 := i1.cell n2.pc
    have f13 := i1.free (o + 13)
    replace i1 := i1.set (o + 13) (.int .i64 3)
    go_wp2
    go_end0
    exact ⟨rfl, _, i1, n3, s3⟩

set_option maxHeartbeats 1000000 in
theorem fr_call {w : World} {M G N P : Nat} {X X' : List Nat} {T T' : Int} {c : Array Value} {o : Nat} {t : TypeId} {K : Cf} {m m' : Fr} {fn : Nat} (is : InA w w M G N X T P c t) (hm : FrAt c o K m) (h1 : m.pc = 0 ∧ fn = 63 ∨ m.pc = 1 ∧ fn = 64 ∨ m.pc = 2 ∧ fn = 65)
    (c0 : Calls Tryd.prog fn #[.pointer (some ⟨P, o, none⟩), .pointer (some ⟨M, 0, none⟩)] w fun r w' => r = .returned (.tuple #[]) ∧ ∃ c', InA w w' M G N X' T' P c' t ∧ FrAt c' o K m' ∧ Same c c' o (o + 14)) :
    Calls Tryd.prog 54 #[.pointer (some ⟨P, o, none⟩), .pointer (some ⟨M, 0, none⟩)] w fun r w' => r = .returned (.bool (decide (m'.pc = 3))) ∧ ∃ c', InA w w' M G N X' T' P c' t ∧ FrAt c' o K m' ∧ Same c c' o (o + 14) := by
  have l8 := is.cell hm.pc
  have hd : ((m'.pc : Int) == 3) = decide (m'.pc = 3) := by by_cases e : m'.pc = 3 <;> simp [e]; omega
  rw [← hd]
  rcases h1 with ⟨h1, rfl⟩ | ⟨h1, rfl⟩ | ⟨h1, rfl⟩
  · rw [h1] at l8
    clear hm hd h1 is
    go_enter Tryd.func54, Tryd.ntmps54
    go_wp2_with (go_at_call 63; refine c0.mono ?_; rintro e w1 ⟨rfl, c1, i1, p1, s1⟩; have m8 := i1.cell p1.pc)
    go_ret
    exact ⟨rfl, c1, i1, p1, s1⟩
  · rw [h1] at l8
    clear hm hd h1 is
    go_enter Tryd.func54, Tryd.ntmps54
    go_wp2_with (go_at_call 64; refine c0.mono ?_; rintro e w1 ⟨rfl, c1, i1, p1, s1⟩; have m8 := i1.cell p1.pc)
    go_ret
    exact ⟨rfl, c1, i1, p1, s1⟩
  · rw [h1] at l8
    clear hm hd h1 is
    go_enter Tryd.func54, Tryd.ntmps54
    go_wp2_with (go_at_call 65; refine c0.mono ?_; rintro e w1 ⟨rfl, c1, i1, p1, s1⟩; have m8 := i1.cell p1.pc)
    go_ret
    exact ⟨rfl, c1, i1, p1, s1⟩
set_option maxHeartbeats 1000000 in
theorem fr_end {w : World} {M G N P : Nat} {X : List Nat} {T : Int} {c : Array Value} {o : Nat} {t : TypeId} {K : Cf} {m : Fr} (is : InA w w M G N X T P c t) (hm : FrAt c o K m) (h1 : m.pc = 3) (q : Value) :
    Calls Tryd.prog 54 #[.pointer (some ⟨P, o, none⟩), q] w fun r w' => r = .returned (.bool true) ∧ w = w' := by
  have l8 := is.cell hm.pc
  rw [h1] at l8
  go_enter Tryd.func54, Tryd.ntmps54
  go_wp2
  go_ret
  exact ⟨rfl, rfl⟩
set_option maxHeartbeats 1000000 in
theorem fr_nil (q : Value) (w : World) : Calls Tryd.prog 54 #[.pointer none, q] w fun r w' => r = .returned (.bool true) ∧ w = w' := by
  go_enter Tryd.func54, Tryd.ntmps54
  go_wp2
  go_ret
  exact ⟨rfl, rfl⟩

theorem pushX_sl (K : Cf) (X : List Nat) (q : QS) : (pushX K X q).2.sl = q.sl := by
  unfold pushX
  repeat' split
  all_goals rfl

/-- A Free's step. -/
theorem fr_any {w : World} {M G P : Nat} {X : List Nat} {T : Int} {c : Array Value} {o : Nat} {t : TypeId} {K : Cf} {f : Fr} (hK : K.Ok) (is : InA w w M G K.N X T P c t) (hf : FrAt c o K f) (hk : f.Ok K) (h2 : f.pc ≤ 2) (hT : T + 1 < 4611686018427387904) :
    Calls Tryd.prog 54 #[.pointer (some ⟨P, o, none⟩), .pointer (some ⟨M, 0, none⟩)] w fun r w' => r = .returned (.bool (decide ((frX K X f).2.pc = 3))) ∧ ∃ c', InA w w' M G K.N (frX K X f).1 (T + 1) P c' t ∧ FrAt c' o K (frX K X f).2 ∧ Same c c' o (o + 14) := by
  have hX := fun i => is.mem.fits i
  have hs := hk.wf.sl
  have h3 : f.pc = 0 ∨ f.pc = 1 ∨ f.pc = 2 := by omega
  rcases h3 with h | h | h
  · have e : frX K X f = (X, { f with fd := fdW (X.getD (K.hd f.q.sl) 0) K.g, pc := if limboW (X.getD (K.hd f.q.sl) 0) = true then 1 else 3 }) := by unfold frX; rw [if_pos h]
    rw [e]
    exact fr_call is hf (.inl ⟨h, rfl⟩) (floadHeader_as is hf hT (K.hd_lt hs) rfl rfl (fun w hw => freed_all _ (hX _) K.g w hw))
  · have e : frX K X f = (X.set (K.hd f.q.sl) f.fd, if kdW f.fd = 4 then { f with gone := true, pc := 3 } else { f with pc := 2 }) := by unfold frX; rw [if_neg (by omega), if_pos h]
    rw [e]
    exact fr_call is hf (.inr (.inl ⟨h, rfl⟩)) (fstoreHeader_as is hf hT (K.hd_lt hs) rfl hk.fd)
  · have e : frX K X f = ((pushX K X f.q).1, if (pushX K X f.q).2.pc = 3 then { f with q := (pushX K X f.q).2, back := true, pc := 3 } else { f with q := (pushX K X f.q).2 }) := by unfold frX; rw [if_neg (by omega), if_neg (by omega), if_pos h]
    rw [e]
    exact fr_call is hf (.inr (.inr ⟨h, rfl⟩)) (lay_as hf (pushX_sl K X f.q) rfl (push_any hK is hf.q hk.wf (hk.q2 (by omega)) hT))
end Go.Proofs.YteechgmjaagbmabDoor
