/- Contracts of package arena's Free. -/
import Derived.Test.YtjbjijkkmlehgaaDoorPA
import Derived.Test.YtjbjijkkmlehgaaDoorHhHFree
import Derived.Laws.CopyOwn
import Derived.Test.YtjbjijkkmlehgaaDoorPFit
namespace Go.Proofs.YtjbjijkkmlehgaaDoor
open Go.RowKit
open Mm (IsMem MS touched Only IsWords)
open Hh (WT wordOf okW Hr)

/-- Whether a word is a Limbo slot's, and what it is freed to. -/
def limboW (W : Nat) : Bool := okW W && decide (W % 8 = 3)
def fdW (W : Nat) (g : Int) : Nat :=
  if limboW W = true then (if ((W / 65536 % 4294967296 : Nat) : Int) < 4294967295 ∧ ((W / 65536 % 4294967296 : Nat) : Int) + 1 < g then wordOf 0 0 (false : Bool).toNat 0 (W / 65536 % 4294967296 + 1) 0 else W + 1) else W
theorem freed_all (W : Nat) (hW : W < 18446744073709551616) (g : Int) (w : World) (hw : WT w) :
    Calls Tryd.prog 71 #[.int .u64 (W : Nat), .int .i64 g] w fun r w' => r = .returned (.tuple #[.int .u64 (fdW W g : Nat), .bool (limboW W)]) ∧ Below w.heap.size w w' := by
  by_cases h : okW W = true
  · obtain ⟨K, M, gr, A, N, S, hr, rfl⟩ := Hh.okW_parts hW h
    obtain ⟨p0, _, _, _, _, p5, _, _⟩ := Hh.word_parts gr hr
    by_cases hk : K = 3
    · subst hk
      have hl : limboW (wordOf 3 M gr.toNat A N S) = true := by unfold limboW; rw [h, p0]; rfl
      have hf : fdW (wordOf 3 M gr.toNat A N S) g = if (N : Int) < 4294967295 ∧ (N : Int) + 1 < g then wordOf 0 0 (false : Bool).toNat 0 (N + 1) 0 else wordOf 4 M gr.toNat A N S := by
        unfold fdW
        rw [if_pos hl, p5]
        have e : wordOf 3 M gr.toNat A N S + 1 = wordOf 4 M gr.toNat A N S := by unfold wordOf; omega
        rw [e]
      rw [hl, hf]
      by_cases hd : (N : Int) < 4294967295 ∧ (N : Int) + 1 < g
      · rw [if_pos hd]
        exact Hh.freed_free gr hr g hd.1 hd.2 w hw
      · rw [if_neg hd]
        exact Hh.freed_dead gr hr g (by have := hr.n; omega) w hw
    · have hl : limboW (wordOf K M gr.toNat A N S) = false := by unfold limboW; rw [h, p0]; simp [hk]
      have hf : fdW (wordOf K M gr.toNat A N S) g = wordOf K M gr.toNat A N S := by unfold fdW; rw [hl]; rfl
      rw [hl, hf]
      exact Hh.freed_not gr hr g hk w hw
  · have h' : okW W = false := by simpa using h
    have hl : limboW W = false := by unfold limboW; rw [h']; rfl
    have hf : fdW W g = W := by unfold fdW; rw [hl]; rfl
    rw [hl, hf]
    exact Hh.freed_bad hW h' g w hw
theorem fdW_lt {W : Nat} (hW : W < 18446744073709551616) (g : Int) : fdW W g < 18446744073709551616 := by
  unfold fdW limboW
  split
  · rename_i h
    simp only [Bool.and_eq_true, decide_eq_true_eq] at h
    split
    · unfold wordOf; simp only [Bool.toNat_false]; omega
    · omega
  · exact hW
/-- The kind that a word tells. -/
def kdW (W : Nat) : Nat := if okW W = true then W % 8 else 0
theorem unpack_kind (W : Nat) (hW : W < 18446744073709551616) : ∃ (m : Int) (g : Bool) (a n s : Int) (z : Bool), ∀ w, WT w → Calls Tryd.prog 49 #[.int .u64 (W : Nat)] w fun e w' => e = .returned (.tuple #[.agg #[.int .i64 (kdW W : Nat), .int .i64 m, .bool g, .int .i64 a, .int .i64 n, .int .i64 s], .bool z]) ∧ Below w.heap.size w w' := by
  by_cases h : okW W = true
  · obtain ⟨K, M, g, A, N, S, hr, rfl⟩ := Hh.okW_parts hW h
    have e : kdW (wordOf K M g.toNat A N S) = K := by
      unfold kdW
      rw [if_pos h]
      exact (Hh.word_parts g hr).1
    rw [e]
    exact ⟨_, _, _, _, _, _, fun w hw => Hh.unpack_word g hr w hw⟩
  · have h' : okW W = false := by simpa using h
    have e : kdW W = 0 := by unfold kdW; rw [if_neg h]
    rw [e]
    refine ⟨0, false, 0, 0, 0, false, fun w hw => ?_⟩
    have c := Hh.hunpack_any W hW w hw
    rw [Hh.unpV_bad h'] at c
    exact c

/-- What a Free holds. -/
structure Fr where
  back : Bool
  gone : Bool
  q : QS
  pc : Nat
  fd : Nat
structure FrAt (c : Array Value) (K : Cf) (f : Fr) : Prop where
  back : c[0]? = some (.bool f.back)
  gone : c[1]? = some (.bool f.gone)
  hd : c[2]? = some (.int .i64 (K.hd f.q.sl : Nat))
  g : c[3]? = some (.int .i64 K.g)
  q : PuAt c 4 K f.q
  pc : c[13]? = some (.int .i64 (f.pc : Nat))
  fd : c[14]? = some (.int .u64 (f.fd : Nat))
theorem FrAt.size {c : Array Value} {K : Cf} {f : Fr} (h : FrAt c K f) : 14 < c.size := lt_get h.fd
theorem FrAt.push {c c' : Array Value} {K : Cf} {f : Fr} {q : QS} (h : FrAt c K f) (s : Same c c' 4 12) (hq : PuAt c' 4 K q) (hs : q.sl = f.q.sl) : FrAt c' K { f with q := q } :=
  ⟨(s.out _ (by omega)).trans h.back, (s.out _ (by omega)).trans h.gone, (s.out _ (by omega)).trans (by rw [hs]; exact h.hd), (s.out _ (by omega)).trans h.g, hq, (s.out _ (by omega)).trans h.pc, (s.out _ (by omega)).trans h.fd⟩
theorem FrAt.put_pc {c : Array Value} {K : Cf} {f : Fr} (h : FrAt c K f) (v : Nat) : FrAt (c.setIfInBounds 13 (.int .i64 (v : Nat))) K { f with pc := v } := by
  have := h.size
  exact ⟨(get_set_ne (by omega)).trans h.back, (get_set_ne (by omega)).trans h.gone, (get_set_ne (by omega)).trans h.hd, (get_set_ne (by omega)).trans h.g, h.q.same (Same.set c (a := 13) (b := 13) _ (by omega)) (by omega), get_set (by omega), (get_set_ne (by omega)).trans h.fd⟩
theorem FrAt.put_fd {c : Array Value} {K : Cf} {f : Fr} (h : FrAt c K f) (v : Nat) : FrAt (c.setIfInBounds 14 (.int .u64 (v : Nat))) K { f with fd := v } := by
  have := h.size
  exact ⟨(get_set_ne (by omega)).trans h.back, (get_set_ne (by omega)).trans h.gone, (get_set_ne (by omega)).trans h.hd, (get_set_ne (by omega)).trans h.g, h.q.same (Same.set c (a := 14) (b := 14) _ (by omega)) (by omega), (get_set_ne (by omega)).trans h.pc, get_set (by omega)⟩
theorem FrAt.put_back {c : Array Value} {K : Cf} {f : Fr} (h : FrAt c K f) (v : Bool) : FrAt (c.setIfInBounds 0 (.bool v)) K { f with back := v } := by
  have := h.size
  exact ⟨get_set (by omega), (get_set_ne (by omega)).trans h.gone, (get_set_ne (by omega)).trans h.hd, (get_set_ne (by omega)).trans h.g, h.q.same (Same.set c (a := 0) (b := 0) _ (by omega)) (by omega), (get_set_ne (by omega)).trans h.pc, (get_set_ne (by omega)).trans h.fd⟩
theorem FrAt.put_gone {c : Array Value} {K : Cf} {f : Fr} (h : FrAt c K f) (v : Bool) : FrAt (c.setIfInBounds 1 (.bool v)) K { f with gone := v } := by
  have := h.size
  exact ⟨(get_set_ne (by omega)).trans h.back, get_set (by omega), (get_set_ne (by omega)).trans h.hd, (get_set_ne (by omega)).trans h.g, h.q.same (Same.set c (a := 1) (b := 1) _ (by omega)) (by omega), (get_set_ne (by omega)).trans h.pc, (get_set_ne (by omega)).trans h.fd⟩

/-- A Free's step on the words. -/
def frX (K : Cf) (X : List Nat) (f : Fr) : List Nat × Fr :=
  if f.pc = 0 then (X, { f with fd := fdW (X.getD (K.hd f.q.sl) 0) K.g, pc := if limboW (X.getD (K.hd f.q.sl) 0) = true then 1 else 3 })
  else if f.pc = 1 then (X.set (K.hd f.q.sl) f.fd, if kdW f.fd = 4 then { f with gone := true, pc := 3 } else { f with pc := 2 })
  else if f.pc = 2 then ((pushX K X f.q).1, if (pushX K X f.q).2.pc = 3 then { f with q := (pushX K X f.q).2, back := true, pc := 3 } else { f with q := (pushX K X f.q).2 })
  else (X, f)
structure Fr.Ok (f : Fr) (K : Cf) : Prop where
  wf : QWf K f.q
  pc : f.pc ≤ 3
  q2 : f.pc ≤ 2 → f.q.pc ≤ 2
  fd : f.fd < 18446744073709551616

theorem FrAt.rd {w wr : World} {M G N P : Nat} {X : List Nat} {T : Int} {c : Array Value} {t : TypeId} {K : Cf} {f : Fr} (h : FrAt c K f) (is : InA w wr M G N X T P c t) :
    wr.cell? ⟨P, 2, none⟩ = some (.int .i64 (K.hd f.q.sl : Nat)) ∧ wr.cell? ⟨P, 3, none⟩ = some (.int .i64 K.g) := ⟨is.cell h.hd, is.cell h.g⟩
theorem FrAt.rd2 {w wr : World} {M G N P : Nat} {X : List Nat} {T : Int} {c : Array Value} {t : TypeId} {K : Cf} {f : Fr} (h : FrAt c K f) (is : InA w wr M G N X T P c t) :
    wr.cell? ⟨P, 2, none⟩ = some (.int .i64 (K.hd f.q.sl : Nat)) ∧ wr.cell? ⟨P, 14, none⟩ = some (.int .u64 (f.fd : Nat)) := ⟨is.cell h.hd, is.cell h.fd⟩

set_option maxHeartbeats 4000000 in
theorem floadHeader_as {w : World} {M G N P : Nat} {X : List Nat} {T : Int} {c : Array Value} {t : TypeId} {K : Cf} {f : Fr} (is : InA w w M G N X T P c t) (hf : FrAt c K f) (hT : T + 1 < 4611686018427387904) {L : Nat} (hL : L < N) (hh : K.hd f.q.sl = L) {v : Nat} (hv : X.getD L 0 = v) {fd : Nat} {z : Bool}
    (c1 : ∀ w, WT w → Calls Tryd.prog 71 #[.int .u64 (v : Nat), .int .i64 K.g] w fun e w' => e = .returned (.tuple #[.int .u64 (fd : Nat), .bool z]) ∧ Below w.heap.size w w') :
    Calls Tryd.prog 56 #[.pointer (some ⟨P, 0, none⟩), .pointer (some ⟨M, 0, none⟩)] w fun r w' => r = .returned (.tuple #[]) ∧ ∃ c', InA w w' M G N X (T + 1) P c' t ∧ FrAt c' K { f with fd := fd, pc := if z = true then 1 else 3 } := by
  have htb := is.tb
  have hlen := is.len
  have c0 : ∀ wr, InA w wr M G N X T P c t → Calls Tryd.prog 50 #[.pointer (some ⟨M, 0, none⟩), .int .i64 (L : Nat)] wr fun e w' => e = .returned (.int .u64 (v : Nat)) ∧ InA w w' M G N X (T + 1) P c t := fun wr x =>
    (loadX x.mem (by rw [hlen]; exact hL) htb hv).mono fun e w' ⟨h1, h2, h3⟩ => ⟨h1, x.only h2 h3 hlen (by omega)⟩
  have n1 := hf.put_fd fd
  have n2 := n1.put_pc 1
  have n3 := n2.put_pc 3
  have hrd : ∀ wr T, InA w wr M G N X T P c t → _ := fun wr T x => hf.rd x
  have hset : ∀ wr T, InA w wr M G N X T P c t → _ := fun wr T x => n1.rd (x.set 14 (.int .u64 (fd : Nat)))
  have h14 : ∀ wr T, InA w wr M G N X T P c t → wr.cell? ⟨P, 14, none⟩ = some (.int .u64 (f.fd : Nat)) ∧ wr.frozen? ⟨P, 14, none⟩ = false := fun wr T x => ⟨x.cell hf.fd, x.free 14⟩
  simp only at hset
  rw [hh] at hrd hset
  clear hh hv hL hf
  obtain ⟨pz, hpz⟩ : ∃ pz, (if z = true then 1 else 3) = pz := ⟨_, rfl⟩
  rw [hpz]
  go_enter Tryd.func56, Tryd.ntmps56
  go_upto_region 1 with fail
  replace is := is.drew
  obtain ⟨l14, f14⟩ := h14 _ _ is
  go_region_held (fun wr => wr.cell? ⟨P, 2, none⟩ = some (.int .i64 (L : Nat)) ∧ wr.cell? ⟨P, 3, none⟩ = some (.int .i64 K.g)) (first | (with_reducible exact hrd _ _ is) | (with_reducible exact hset _ _ is)) (first
    | (go_at_call 50; with_reducible refine (c0 _ is).mono ?_; rintro e w3 ⟨rfl, i1⟩; clear is l14 f14; have is := i1; clear i1; obtain ⟨l14, f14⟩ := h14 _ _ is)
    | (go_at_call 71; with_reducible refine (c1 _ is.wt).mono ?_; rintro e w3 ⟨rfl, b⟩; replace is := is.below b; clear l14 f14; obtain ⟨l14, f14⟩ := h14 _ _ is))
  all_goals
    have i2 := is.set 14 (.int .u64 (fd : Nat))
    have l13 := i2.cell n1.pc
    have f13 := i2.free 13
    clear hrd hset h14 is c0 c1 l14 f14
    go_upto_region 2 with fail
    generalize w3.setCell ⟨P, 14, none⟩ (.int .u64 (fd : Nat)) = w5 at *
    replace i2 := i2.set 13 (.int .i64 1)
    go_upto_region 3 with fail
    clear l13 f13
    generalize w5.setCell ⟨P, 13, none⟩ (.int .i64 1) = w6 at *
    have l13 := i2.cell n2.pc
    have f13 := i2.free 13
    cases z
    · obtain rfl : pz = 3 := by rw [← hpz]; rfl
      replace i2 := i2.set 13 (.int .i64 3)
      go_wp2
      go_end0
      exact ⟨rfl, _, i2, n3⟩
    · obtain rfl : pz = 1 := by rw [← hpz]; rfl
      go_wp2
      go_end0
      exact ⟨rfl, _, i2, n2⟩

set_option maxHeartbeats 4000000 in
theorem fstoreHeader_as {w : World} {M G N P : Nat} {X : List Nat} {T : Int} {c : Array Value} {t : TypeId} {K : Cf} {f : Fr} (is : InA w w M G N X T P c t) (hf : FrAt c K f) (hT : T + 1 < 4611686018427387904) {L : Nat} (hL : L < N) (hh : K.hd f.q.sl = L) (h64 : f.fd < 18446744073709551616) :
    Calls Tryd.prog 57 #[.pointer (some ⟨P, 0, none⟩), .pointer (some ⟨M, 0, none⟩)] w fun r w' => r = .returned (.tuple #[]) ∧ ∃ c', InA w w' M G N (X.set L f.fd) (T + 1) P c' t ∧ FrAt c' K (if kdW f.fd = 4 then { f with gone := true, pc := 3 } else { f with pc := 2 }) := by
  have htb := is.tb
  have hlen := is.len
  obtain ⟨back, gone, q, pc, v⟩ := f
  simp only at *
  obtain ⟨m1, g1, a1, n1, s1, z1, c3⟩ := unpack_kind v h64
  have c0 : ∀ wr, InA w wr M G N X T P c t → Calls Tryd.prog 24 #[.pointer (some ⟨M, 0, none⟩), .int .i64 (L : Nat), .int .u64 (v : Nat)] wr fun e w' => e = .returned (.bool true) ∧ InA w w' M G N (X.set L v) (T + 1) P c t := fun wr x =>
    (storeX x.mem (by rw [hlen]; exact hL) h64 htb).mono fun e w' ⟨h1, h2, h3⟩ => ⟨h1, x.only h2 h3 (by rw [List.length_set]; exact hlen) (by omega)⟩
  have n2 := hf.put_pc 2
  have n3 := n2.put_gone true
  have n4 := n3.put_pc 3
  simp only at n2 n3 n4
  have hrd : ∀ wr X T, InA w wr M G N X T P c t → _ := fun wr X T x => hf.rd2 x
  have h13 : ∀ wr X T, InA w wr M G N X T P c t → wr.cell? ⟨P, 13, none⟩ = some (.int .i64 (pc : Nat)) ∧ wr.frozen? ⟨P, 13, none⟩ = false := fun wr X T x => ⟨x.cell hf.pc, x.free 13⟩
  simp only at hrd
  rw [hh] at hrd
  obtain ⟨fz, hfz⟩ : ∃ fz, (if kdW v = 4 then ⟨back, true, q, 3, v⟩ else ⟨back, gone, q, 2, v⟩ : Fr) = fz := ⟨_, rfl⟩
  rw [hfz]
  generalize hkd : kdW v = kd at *
  clear hh hL hf h64 hkd
  go_enter Tryd.func57, Tryd.ntmps57
  go_upto_region 0 with fail
  replace is := is.drew
  go_region_held (fun wr => wr.cell? ⟨P, 2, none⟩ = some (.int .i64 (L : Nat)) ∧ wr.cell? ⟨P, 14, none⟩ = some (.int .u64 (v : Nat))) (with_reducible exact hrd _ _ _ is) (first
    | (go_at_call 24; with_reducible refine (c0 _ is).mono ?_; rintro e w3 ⟨rfl, i1⟩; clear is; have is := i1; clear i1))
  obtain ⟨l13, f13⟩ := h13 _ _ _ is
  clear hrd h13 c0
  replace is := is.set 13 (.int .i64 2)
  go_upto_region 2 with fail
  clear l13 f13
  generalize w3.setCell ⟨P, 13, none⟩ (.int .i64 2) = w4 at *
  have l14 := is.cell n2.fd
  simp only at l14
  go_upto_region 3 with (go_at_call 49; refine (c3 _ is.wt).mono ?_; rintro e w5 ⟨rfl, b⟩; replace is := is.below b)
  clear l14 c3 b
  have q0 : (w5.alloc (.cells #[.int .i64 (kd : Nat), .int .i64 m1, .bool g1, .int .i64 a1, .int .i64 n1, .int .i64 s1] 48)).cell? ⟨w5.heap.size, 0, none⟩ = some (.int .i64 (kd : Nat)) := Hh.new_at _ _ _ 0 _ rfl
  replace is := is.below (alloc_below w5 (.cells #[.int .i64 (kd : Nat), .int .i64 m1, .bool g1, .int .i64 a1, .int .i64 n1, .int .i64 s1] 48))
  generalize w5.heap.size = R at *
  generalize w5.alloc (.cells #[.int .i64 (kd : Nat), .int .i64 m1, .bool g1, .int .i64 a1, .int .i64 n1, .int .i64 s1] 48) = w6 at *
  by_cases hk : kd = 4
  · subst hk
    obtain rfl : fz = ⟨back, true, q, 3, v⟩ := by rw [← hfz]; rfl
    clear hfz
    have l1 := is.cell n2.gone
    have f1 := is.free 1
    replace is := is.set 1 (.bool true)
    go_upto_region 5 with fail
    clear l1 f1 q0
    generalize w6.setCell ⟨P, 1, none⟩ (.bool true) = w7 at *
    have l13 := is.cell n3.pc
    have f13 := is.free 13
    replace is := is.set 13 (.int .i64 3)
    go_wp2
    go_end0
    exact ⟨rfl, _, is, n4⟩
  · obtain rfl : fz = ⟨back, gone, q, 2, v⟩ := by rw [← hfz, if_neg hk]
    clear hfz
    have hk2 : ((kd : Int) == 4) = false := by simp; omega
    go_wp2
    go_end0
    exact ⟨rfl, _, is, n2⟩

set_option maxHeartbeats 2000000 in
theorem lay_as {w : World} {M G N P : Nat} {X' : List Nat} {T' : Int} {c : Array Value} {t : TypeId} {K : Cf} {f : Fr} {q' : QS} (hf : FrAt c K f) (hs : q'.sl = f.q.sl) {z : Bool} (hz : decide (q'.pc = 3) = z)
    (c0 : Calls Tryd.prog 72 #[.pointer (some ⟨P, 4, none⟩), .pointer (some ⟨M, 0, none⟩)] w fun r w' => r = .returned (.bool z) ∧ ∃ c', InA w w' M G N X' T' P c' t ∧ PuAt c' 4 K q' ∧ Same c c' 4 12) :
    Calls Tryd.prog 58 #[.pointer (some ⟨P, 0, none⟩), .pointer (some ⟨M, 0, none⟩)] w fun r w' => r = .returned (.tuple #[]) ∧ ∃ c', InA w w' M G N X' T' P c' t ∧ FrAt c' K (if q'.pc = 3 then { f with q := q', back := true, pc := 3 } else { f with q := q' }) := by
  have hp : ∀ c', Same c c' 4 12 → PuAt c' 4 K q' → FrAt c' K { f with q := q' } := fun c' s p => hf.push s p hs
  obtain ⟨fz, hfz⟩ : ∃ fz, (if q'.pc = 3 then { f with q := q', back := true, pc := 3 } else { f with q := q' } : Fr) = fz := ⟨_, rfl⟩
  rw [hfz]
  cases z
  · have h3 : ¬ q'.pc = 3 := by simpa using hz
    rw [if_neg h3] at hfz
    subst hfz
    clear hz h3 hs hf
    go_enter Tryd.func58, Tryd.ntmps58
    go_wp2_with (go_at_call 72; refine c0.mono ?_; rintro e w1 ⟨rfl, c1, i1, p1, s1⟩)
    go_end0
    exact ⟨rfl, c1, i1, hp _ s1 p1⟩
  · have h3 : q'.pc = 3 := by simpa using hz
    rw [if_pos h3] at hfz
    subst hfz
    clear hz h3 hs hf
    go_enter Tryd.func58, Tryd.ntmps58
    go_upto_region 1 with (go_at_call 72; refine c0.mono ?_; rintro e w1 ⟨rfl, c1, i1, p1, s1⟩)
    have n1 := hp _ s1 p1
    have n2 := n1.put_back true
    have n3 := n2.put_pc 3
    clear hp p1 s1 c0
    have l0 := i1.cell n1.back
    have f0 := i1.free 0
    replace i1 := i1.set 0 (.bool true)
    go_upto_region 2 with fail
    clear l0 f0
    generalize w1.setCell ⟨P, 0, none⟩ (.bool true) = w2 at *
    have l13 := i1.cell n2.pc
    have f13 := i1.free 13
    replace i1 := i1.set 13 (.int .i64 3)
    go_wp2
    go_end0
    exact ⟨rfl, _, i1, n3⟩

set_option maxHeartbeats 1000000 in
theorem fr_call {w : World} {M G N P : Nat} {X X' : List Nat} {T T' : Int} {c : Array Value} {t : TypeId} {K : Cf} {m m' : Fr} {fn : Nat} (is : InA w w M G N X T P c t) (hm : FrAt c K m) (h1 : m.pc = 0 ∧ fn = 56 ∨ m.pc = 1 ∧ fn = 57 ∨ m.pc = 2 ∧ fn = 58)
    (c0 : Calls Tryd.prog fn #[.pointer (some ⟨P, 0, none⟩), .pointer (some ⟨M, 0, none⟩)] w fun r w' => r = .returned (.tuple #[]) ∧ ∃ c', InA w w' M G N X' T' P c' t ∧ FrAt c' K m') :
    Calls Tryd.prog 26 #[.pointer (some ⟨P, 0, none⟩), .pointer (some ⟨M, 0, none⟩)] w fun r w' => r = .returned (.bool (decide (m'.pc = 3))) ∧ ∃ c', InA w w' M G N X' T' P c' t ∧ FrAt c' K m' := by
  have l8 := is.cell hm.pc
  have hd : ((m'.pc : Int) == 3) = decide (m'.pc = 3) := by by_cases e : m'.pc = 3 <;> simp [e]; omega
  rw [← hd]
  rcases h1 with ⟨h1, rfl⟩ | ⟨h1, rfl⟩ | ⟨h1, rfl⟩
  · rw [h1] at l8
    clear hm hd h1 is
    go_enter Tryd.func26, Tryd.ntmps26
    go_wp2_with (go_at_call 56; refine c0.mono ?_; rintro e w1 ⟨rfl, c1, i1, p1⟩; have m8 := i1.cell p1.pc)
    go_ret
    exact ⟨rfl, c1, i1, p1⟩
  · rw [h1] at l8
    clear hm hd h1 is
    go_enter Tryd.func26, Tryd.ntmps26
    go_wp2_with (go_at_call 57; refine c0.mono ?_; rintro e w1 ⟨rfl, c1, i1, p1⟩; have m8 := i1.cell p1.pc)
    go_ret
    exact ⟨rfl, c1, i1, p1⟩
  · rw [h1] at l8
    clear hm hd h1 is
    go_enter Tryd.func26, Tryd.ntmps26
    go_wp2_with (go_at_call 58; refine c0.mono ?_; rintro e w1 ⟨rfl, c1, i1, p1⟩; have m8 := i1.cell p1.pc)
    go_ret
    exact ⟨rfl, c1, i1, p1⟩
set_option maxHeartbeats 1000000 in
theorem fr_end {w : World} {M G N P : Nat} {X : List Nat} {T : Int} {c : Array Value} {t : TypeId} {K : Cf} {m : Fr} (is : InA w w M G N X T P c t) (hm : FrAt c K m) (h1 : m.pc = 3) (q : Value) :
    Calls Tryd.prog 26 #[.pointer (some ⟨P, 0, none⟩), q] w fun r w' => r = .returned (.bool true) ∧ w = w' := by
  have l8 := is.cell hm.pc
  rw [h1] at l8
  go_enter Tryd.func26, Tryd.ntmps26
  go_wp2
  go_ret
  exact ⟨rfl, rfl⟩
set_option maxHeartbeats 1000000 in
theorem fr_nil (q : Value) (w : World) : Calls Tryd.prog 26 #[.pointer none, q] w fun r w' => r = .returned (.bool true) ∧ w = w' := by
  go_enter Tryd.func26, Tryd.ntmps26
  go_wp2
  go_ret
  exact ⟨rfl, rfl⟩

theorem pushX_sl (K : Cf) (X : List Nat) (q : QS) : (pushX K X q).2.sl = q.sl := by
  unfold pushX
  repeat' split
  all_goals rfl

/-- A Free's step. -/
theorem fr_any {w : World} {M G P : Nat} {X : List Nat} {T : Int} {c : Array Value} {t : TypeId} {K : Cf} {f : Fr} (hK : K.Ok) (is : InA w w M G K.N X T P c t) (hf : FrAt c K f) (hk : f.Ok K) (h2 : f.pc ≤ 2) (hT : T + 1 < 4611686018427387904) :
    Calls Tryd.prog 26 #[.pointer (some ⟨P, 0, none⟩), .pointer (some ⟨M, 0, none⟩)] w fun r w' => r = .returned (.bool (decide ((frX K X f).2.pc = 3))) ∧ ∃ c', InA w w' M G K.N (frX K X f).1 (T + 1) P c' t ∧ FrAt c' K (frX K X f).2 := by
  have hX := fun i => is.mem.fits i
  have hs := hk.wf.sl
  have h3 : f.pc = 0 ∨ f.pc = 1 ∨ f.pc = 2 := by omega
  rcases h3 with h | h | h
  · have e : frX K X f = (X, { f with fd := fdW (X.getD (K.hd f.q.sl) 0) K.g, pc := if limboW (X.getD (K.hd f.q.sl) 0) = true then 1 else 3 }) := by unfold frX; rw [if_pos h]
    rw [e]
    exact fr_call is hf (.inl ⟨h, rfl⟩) (floadHeader_as is hf hT (K.hd_lt hs) rfl rfl (fun w hw => freed_all _ (hX _) K.g w hw))
  · have e : frX K X f = (X.set (K.hd f.q.sl) f.fd, if kdW f.fd = 4 then { f with gone := true, pc := 3 } else { f with pc := 2 }) := by unfold frX; rw [if_neg (by omega), if_pos h]
    rw [e]
    exact fr_call is hf (.inr (.inl ⟨h, rfl⟩)) (fstoreHeader_as is hf hT (K.hd_lt hs) rfl hk.fd)
  · have e : frX K X f = ((pushX K X f.q).1, if (pushX K X f.q).2.pc = 3 then { f with q := (pushX K X f.q).2, back := true, pc := 3 } else { f with q := (pushX K X f.q).2 }) := by unfold frX; rw [if_neg (by omega), if_neg (by omega), if_pos h]
    rw [e]
    exact fr_call is hf (.inr (.inr ⟨h, rfl⟩)) (lay_as hf (pushX_sl K X f.q) rfl (push_any hK is hf.q hk.wf (hk.q2 (by omega)) hT))
end Go.Proofs.YtjbjijkkmlehgaaDoor
/- Contracts of package arena's Make: Step. -/
namespace Go.Proofs.YtjbjijkkmlehgaaDoor
open Go.RowKit
open Mm (IsMem MS touched Only IsWords)
open Hh (WT wordOf bornN okW Hr)

set_option maxHeartbeats 1000000 in
theorem mk_call {w : World} {M G N P : Nat} {X X' : List Nat} {T T' : Int} {c : Array Value} {t : TypeId} {K : Cf} {m m' : Mk} {fn : Nat} (is : InA w w M G N X T P c t) (hm : MkAt c K m) (h1 : m.pc = 0 ∧ fn = 48 ∨ m.pc = 2 ∧ fn = 51 ∨ m.pc = 3 ∧ fn = 52)
    (c0 : Calls Tryd.prog fn #[.pointer (some ⟨P, 0, none⟩), .pointer (some ⟨M, 0, none⟩)] w fun r w' => r = .returned (.tuple #[]) ∧ ∃ c', InA w w' M G N X' T' P c' t ∧ MkAt c' K m') :
    Calls Tryd.prog 20 #[.pointer (some ⟨P, 0, none⟩), .pointer (some ⟨M, 0, none⟩)] w fun r w' => r = .returned (.bool (decide (m'.pc = 4))) ∧ ∃ c', InA w w' M G N X' T' P c' t ∧ MkAt c' K m' := by
  have l8 := is.cell hm.pc
  have hd : ((m'.pc : Int) == 4) = decide (m'.pc = 4) := by by_cases e : m'.pc = 4 <;> simp [e]; omega
  rw [← hd]
  rcases h1 with ⟨h1, rfl⟩ | ⟨h1, rfl⟩ | ⟨h1, rfl⟩
  · rw [h1] at l8
    clear hm hd h1 is
    go_enter Tryd.func20, Tryd.ntmps20
    go_wp2_with (go_at_call 48; refine c0.mono ?_; rintro e w1 ⟨rfl, c1, i1, p1⟩; have m8 := i1.cell p1.pc)
    go_ret
    exact ⟨rfl, c1, i1, p1⟩
  · rw [h1] at l8
    clear hm hd h1 is
    go_enter Tryd.func20, Tryd.ntmps20
    go_wp2_with (go_at_call 51; refine c0.mono ?_; rintro e w1 ⟨rfl, c1, i1, p1⟩; have m8 := i1.cell p1.pc)
    go_ret
    exact ⟨rfl, c1, i1, p1⟩
  · rw [h1] at l8
    clear hm hd h1 is
    go_enter Tryd.func20, Tryd.ntmps20
    go_wp2_with (go_at_call 52; refine c0.mono ?_; rintro e w1 ⟨rfl, c1, i1, p1⟩; have m8 := i1.cell p1.pc)
    go_ret
    exact ⟨rfl, c1, i1, p1⟩

set_option maxHeartbeats 1000000 in
theorem mk_end {w : World} {M G N P : Nat} {X : List Nat} {T : Int} {c : Array Value} {t : TypeId} {K : Cf} {m : Mk} (is : InA w w M G N X T P c t) (hm : MkAt c K m) (h1 : m.pc = 4) (q : Value) :
    Calls Tryd.prog 20 #[.pointer (some ⟨P, 0, none⟩), q] w fun r w' => r = .returned (.bool true) ∧ w = w' := by
  have l8 := is.cell hm.pc
  rw [h1] at l8
  go_enter Tryd.func20, Tryd.ntmps20
  go_wp2
  go_ret
  exact ⟨rfl, rfl⟩
set_option maxHeartbeats 1000000 in
theorem mk_nil (q : Value) (w : World) : Calls Tryd.prog 20 #[.pointer none, q] w fun r w' => r = .returned (.bool true) ∧ w = w' := by
  go_enter Tryd.func20, Tryd.ntmps20
  go_wp2
  go_ret
  exact ⟨rfl, rfl⟩

/-- What head.Unpack tells of a word's generation. -/
theorem unpack_gen (W : Nat) (hW : W < 18446744073709551616) : ∃ (k m : Int) (g : Bool) (a s : Int) (z : Bool), ∀ w, WT w → Calls Tryd.prog 49 #[.int .u64 (W : Nat)] w fun e w' => e = .returned (.tuple #[.agg #[.int .i64 k, .int .i64 m, .bool g, .int .i64 a, .int .i64 (genW W : Nat), .int .i64 s], .bool z]) ∧ Below w.heap.size w w' := by
  by_cases h : okW W = true
  · obtain ⟨K, M, g, A, N, S, hr, rfl⟩ := Hh.okW_parts hW h
    have e : genW (wordOf K M g.toNat A N S) = N := by
      unfold genW
      rw [if_pos h]
      exact (Hh.word_parts g hr).2.2.2.2.2.1
    rw [e]
    exact ⟨_, _, _, _, _, _, fun w hw => Hh.unpack_word g hr w hw⟩
  · have h' : okW W = false := by simpa using h
    have e : genW W = 0 := by unfold genW; rw [if_neg h]
    rw [e]
    refine ⟨0, 0, false, 0, 0, false, fun w hw => ?_⟩
    have c := Hh.hunpack_any W hW w hw
    rw [Hh.unpV_bad h'] at c
    exact c

/-- A new block of a header's six cells beside the machine's. -/
structure HdZ (w wr : World) (M G P R : Nat) : Prop where
  hd : Hh.IsHd wr R 0 0 false 0 0 0
  ne : R ≠ M ∧ R ≠ G ∧ R ≠ P
  new : w.heap.size ≤ R
theorem HdZ.below {w wr w' : World} {M G P R : Nat} (h : HdZ w wr M G P R) (b : Below wr.heap.size wr w') : HdZ w w' M G P R := ⟨h.hd.below b, h.ne, h.new⟩
theorem HdZ.only {w wr w' : World} {M G P R : Nat} (h : HdZ w wr M G P R) (o : Only M G wr w') : HdZ w w' M G P R := ⟨(o.block R (lt_of_block h.hd) h.ne.1 h.ne.2.1).trans h.hd, h.ne, h.new⟩
theorem HdZ.ofNew {w wr : World} {M G N P : Nat} {X : List Nat} {T : Int} {c : Array Value} {t : TypeId} (is : InA w wr M G N X T P c t) : HdZ w (wr.alloc (.cells #[.int .i64 0, .int .i64 0, .bool false, .int .i64 0, .int .i64 0, .int .i64 0] 48)) M G P wr.heap.size := by
  have h1 := is.mem.lt
  have h2 := lt_of_block is.blk
  exact ⟨Hh.hd_new wr 0 0 false 0 0 0, by omega, is.ch.size⟩
theorem HdZ.ofNewD {w wr : World} {M G N P : Nat} {X : List Nat} {T : Int} {c : Array Value} {t : TypeId} (is : InA w wr M G N X T P c t) : HdZ w (wr.alloc (.cells #[.int .i64 0, .int .i64 0, .bool false, .int .i64 0, .int .i64 0, .int .i64 0] 48)).drew M G P wr.heap.size := by
  have h := HdZ.ofNew is
  exact ⟨h.hd, h.ne, h.new⟩
theorem HdZ.cells {w wr : World} {M G P R : Nat} (h : HdZ w wr M G P R) : (wr.cell? ⟨R, 0, none⟩ = some (.int .i64 0) ∧ wr.cell? ⟨R, 1, none⟩ = some (.int .i64 0) ∧ wr.cell? ⟨R, 2, none⟩ = some (.bool false) ∧ wr.cell? ⟨R, 3, none⟩ = some (.int .i64 0) ∧ wr.cell? ⟨R, 4, none⟩ = some (.int .i64 0) ∧ wr.cell? ⟨R, 5, none⟩ = some (.int .i64 0)) ∧ ∀ i, wr.frozen? ⟨R, i, none⟩ = false := ⟨h.hd.cells, fun i => h.hd.free i⟩
theorem InA.other {w wr : World} {M G N P : Nat} {X : List Nat} {T : Int} {c : Array Value} {t : TypeId} (h : InA w wr M G N X T P c t) {R : Nat} (hR : R ≠ M ∧ R ≠ G ∧ R ≠ P) (hn : w.heap.size ≤ R) (hw : 0 < w.heap.size) (i : Nat) (v : Value) : InA w (wr.setCell ⟨R, i, none⟩ v) M G N X T P c t := by
  have ch : Chg [R] wr (wr.setCell ⟨R, i, none⟩ v) := (Chg.refl [R] wr).setCell (by simp) v
  exact ⟨h.mem.chg ch (by simp; omega) (by simp; omega), WT.chg h.wt ch (by simp; omega), h.len, h.tb, ch.at h.blk (by simp; omega), h.ch.setCell (.inr hn) v, h.hP, h.pos⟩
theorem InA.six {w wr : World} {M G N P : Nat} {X : List Nat} {T : Int} {c : Array Value} {t : TypeId} (h : InA w wr M G N X T P c t) {R : Nat} (hz : HdZ w wr M G P R) (hw : 0 < w.heap.size) (v0 v1 v2 v3 v4 v5 : Value) : InA w ((((((wr.setCell ⟨R, 0, none⟩ v0).setCell ⟨R, 1, none⟩ v1).setCell ⟨R, 2, none⟩ v2).setCell ⟨R, 3, none⟩ v3).setCell ⟨R, 4, none⟩ v4).setCell ⟨R, 5, none⟩ v5) M G N X T P c t :=
  (((((h.other hz.ne hz.new hw 0 v0).other hz.ne hz.new hw 1 v1).other hz.ne hz.new hw 2 v2).other hz.ne hz.new hw 3 v3).other hz.ne hz.new hw 4 v4).other hz.ne hz.new hw 5 v5
theorem HdZ.got {w wr : World} {M G P R : Nat} (hz : HdZ w wr M G P R) (k m : Int) (g : Bool) (a n s : Int) : ((((((wr.setCell ⟨R, 0, none⟩ (.int .i64 k)).setCell ⟨R, 1, none⟩ (.int .i64 m)).setCell ⟨R, 2, none⟩ (.bool g)).setCell ⟨R, 3, none⟩ (.int .i64 a)).setCell ⟨R, 4, none⟩ (.int .i64 n)).setCell ⟨R, 5, none⟩ (.int .i64 s)).cell? ⟨R, 4, none⟩ = some (.int .i64 n) := (Hh.hd_stored hz.hd k m g a n s).cells.2.2.2.2.1

set_option maxRecDepth 100000 in
set_option maxHeartbeats 40000000 in
theorem mk_gen {w : World} {M G N P : Nat} {X : List Nat} {T : Int} {c : Array Value} {t : TypeId} {K : Cf} {m : Mk} (is : InA w w M G N X T P c t) (hm : MkAt c K m) (h1 : m.pc = 1) (hT : T + 1 < 4611686018427387904) {L s : Nat} (hL : L < N) (hs : m.p.sl = (s : Int))
    (c2 : ∀ w, Calls Tryd.prog 39 #[.agg (cs K.S K.a K.C K.D K.g K.k), .int .i64 (s : Nat)] w fun e w' => e = .returned (.int .i64 (L : Nat)) ∧ Below w.heap.size w w') :
    Calls Tryd.prog 20 #[.pointer (some ⟨P, 0, none⟩), .pointer (some ⟨M, 0, none⟩)] w fun r w' => r = .returned (.bool false) ∧ ∃ c', InA w w' M G N X (T + 1) P c' t ∧ MkAt c' K { m with gen := genW (X.getD L 0), pc := 2 } := by
  have htb := is.tb
  have hlen := is.len
  obtain ⟨v, hv⟩ : ∃ v, X.getD L 0 = v := ⟨_, rfl⟩
  have hv64 := is.mem.fits L
  rw [hv] at hv64
  have c0 : ∀ wr, InA w wr M G N X T P c t → Calls Tryd.prog 50 #[.pointer (some ⟨M, 0, none⟩), .int .i64 (L : Nat)] wr fun e w' => e = .returned (.int .u64 (v : Nat)) ∧ InA w w' M G N X (T + 1) P c t ∧ Only M G wr w' := fun wr x =>
    (loadX x.mem (by rw [hlen]; exact hL) htb hv).mono fun e w' ⟨h1, h2, h3⟩ => ⟨h1, x.only h2 h3 hlen (by omega), h3⟩
  rw [hv]
  obtain ⟨k', m', g', a', s', z', c3⟩ := unpack_gen v hv64
  have hrc : ∀ wr X T, InA w wr M G N X T P c t → _ := fun wr X T x => hm.rdC x
  rw [hs] at hrc
  have l23 := is.cell hm.pc
  rw [h1] at l23
  have n1 := hm.put_gen (genW v)
  have n2 := n1.put_pc 2
  have hgf : ∀ wr X T, InA w wr M G N X T P c t → wr.cell? ⟨P, 24, none⟩ = some (.int .i64 (m.gen : Nat)) ∧ wr.frozen? ⟨P, 24, none⟩ = false := fun wr X T x => ⟨x.cell hm.gen, x.free 24⟩
  have hPl := lt_of_block is.blk
  clear hL hs hm hv hv64
  generalize genW v = gv at *
  have hML := is.mem.lt
  have HC : Hid (∀ wr X T, InA w wr M G N X T P c t → _) := hrc
  have HG : Hid (∀ wr X T, InA w wr M G N X T P c t → _) := hgf
  have N1 : Hid _ := n1
  have N2 : Hid _ := n2
  clear hrc hgf n1 n2
  go_enter Tryd.func20, Tryd.ntmps20
  go_upto_region 7 with fail
  have is0 := is
  have hws : Hid (0 < w.heap.size) := show 0 < w.heap.size by omega
  replace is := is.drew
  clear l23
  have hS0 := HC.out _ _ _ is
  refine wp_region_held_drew (S := fun wr => wr.cell? ⟨P, 2, none⟩ = some (.int .i64 (K.S : Nat)) ∧ wr.cell? ⟨P, 3, none⟩ = some (.int .i64 K.a) ∧ wr.cell? ⟨P, 4, none⟩ = some (.int .i64 (K.C : Nat)) ∧ wr.cell? ⟨P, 5, none⟩ = some (.int .i64 (K.D : Nat)) ∧ wr.cell? ⟨P, 6, none⟩ = some (.int .i64 K.g) ∧ wr.cell? ⟨P, 7, none⟩ = some (.int .i64 K.k) ∧ wr.cell? ⟨P, 12, none⟩ = some (.int .i64 (s : Nat))) (by kernel_rfl) hS0 (fun hS1 => ?_)
  clear hS0
  refine wpAnyH_take (i := 0) (oi := { dst := some 21, op := Go.Op.move (Go.Operand.tmp 1), type := 28, pos := "arena.go:100", after := #[], guard := none }) (v := .pointer (some ⟨M, 0, none⟩)) rfl (by kernel_rfl) (by kernel_rfl) (by kernel_rfl) (fun _ _ _ h => h) (Or.inl ⟨by rfl, fun w hSw => by (try dsimp only at hSw); go_simp⟩) hS1 ?_
  simp only [Act.put, List.setIfInBounds_toArray, List.set_cons_zero, List.set_cons_succ]
  refine wpAnyH_take (i := 1) (oi := { dst := some 22, op := Go.Op.move (Go.Operand.tmp 0), type := 38, pos := "arena.go:100", after := #[], guard := none }) (v := .pointer (some ⟨P, 0, none⟩)) rfl (by kernel_rfl) (by kernel_rfl) (by kernel_rfl) (fun _ _ _ h => h) (Or.inl ⟨by rfl, fun w hSw => by (try dsimp only at hSw); go_simp⟩) hS1 ?_
  simp only [Act.put, List.setIfInBounds_toArray, List.set_cons_zero, List.set_cons_succ]
  refine wpAnyH_take (i := 2) (oi := { dst := some 23, op := Go.Op.nilCheck (Go.Operand.tmp 22), type := 0, pos := "arena.go:100", after := #[{ on := 1, ground := Go.Ground.data }], guard := none }) (v := .pointer (some ⟨P, 0, none⟩)) rfl (by kernel_rfl) (by kernel_rfl) (by kernel_rfl) (fun _ _ _ h => h) (Or.inl ⟨by rfl, fun w hSw => by (try dsimp only at hSw); go_simp⟩) hS1 ?_
  simp only [Act.put, List.setIfInBounds_toArray, List.set_cons_zero, List.set_cons_succ]
  refine wpAnyH_take (i := 3) (oi := { dst := some 24, op := Go.Op.fieldAddr 60 (Go.Operand.tmp 23) 2, type := 0, pos := "arena.go:100", after := #[{ on := 2, ground := Go.Ground.data }], guard := none }) (v := .pointer (some ⟨P, 2, none⟩)) rfl (by kernel_rfl) (by kernel_rfl) (by kernel_rfl) (fun _ _ _ h => h) (Or.inl ⟨by rfl, fun w hSw => by (try dsimp only at hSw); go_simp⟩) hS1 ?_
  simp only [Act.put, List.setIfInBounds_toArray, List.set_cons_zero, List.set_cons_succ]
  refine wpAnyH_take (i := 4) (oi := { dst := some 25, op := Go.Op.load 23 (Go.Operand.tmp 24), type := 23, pos := "arena.go:100", after := #[{ on := 3, ground := Go.Ground.data }], guard := none }) (v := .agg #[.int .i64 (K.S : Nat), .int .i64 K.a, .int .i64 (K.C : Nat), .int .i64 (K.D : Nat), .int .i64 K.g, .int .i64 K.k]) rfl (by kernel_rfl) (by kernel_rfl) (by kernel_rfl) (fun _ _ _ h => h) (Or.inl ⟨by rfl, fun w hSw => by (try dsimp only at hSw); go_simp⟩) hS1 ?_
  simp only [Act.put, List.setIfInBounds_toArray, List.set_cons_zero, List.set_cons_succ]
  refine wpAnyH_take (i := 5) (oi := { dst := some 26, op := Go.Op.move (Go.Operand.tmp 0), type := 38, pos := "arena.go:100", after := #[], guard := none }) (v := .pointer (some ⟨P, 0, none⟩)) rfl (by kernel_rfl) (by kernel_rfl) (by kernel_rfl) (fun _ _ _ h => h) (Or.inl ⟨by rfl, fun w hSw => by (try dsimp only at hSw); go_simp⟩) hS1 ?_
  simp only [Act.put, List.setIfInBounds_toArray, List.set_cons_zero, List.set_cons_succ]
  refine wpAnyH_take (i := 6) (oi := { dst := some 27, op := Go.Op.nilCheck (Go.Operand.tmp 26), type := 0, pos := "arena.go:100", after := #[{ on := 5, ground := Go.Ground.data }], guard := none }) (v := .pointer (some ⟨P, 0, none⟩)) rfl (by kernel_rfl) (by kernel_rfl) (by kernel_rfl) (fun _ _ _ h => h) (Or.inl ⟨by rfl, fun w hSw => by (try dsimp only at hSw); go_simp⟩) hS1 ?_
  simp only [Act.put, List.setIfInBounds_toArray, List.set_cons_zero, List.set_cons_succ]
  refine wpAnyH_take (i := 7) (oi := { dst := some 28, op := Go.Op.fieldAddr 60 (Go.Operand.tmp 27) 7, type := 0, pos := "arena.go:100", after := #[{ on := 6, ground := Go.Ground.data }], guard := none }) (v := .pointer (some ⟨P, 12, none⟩)) rfl (by kernel_rfl) (by kernel_rfl) (by kernel_rfl) (fun _ _ _ h => h) (Or.inl ⟨by rfl, fun w hSw => by (try dsimp only at hSw); go_simp⟩) hS1 ?_
  simp only [Act.put, List.setIfInBounds_toArray, List.set_cons_zero, List.set_cons_succ]
  refine wpAnyH_take (i := 8) (oi := { dst := some 29, op := Go.Op.fieldAddr 58 (Go.Operand.tmp 28) 0, type := 0, pos := "arena.go:100", after := #[{ on := 7, ground := Go.Ground.data }], guard := none }) (v := .pointer (some ⟨P, 12, none⟩)) rfl (by kernel_rfl) (by kernel_rfl) (by kernel_rfl) (fun _ _ _ h => h) (Or.inl ⟨by rfl, fun w hSw => by (try dsimp only at hSw); go_simp⟩) hS1 ?_
  simp only [Act.put, List.setIfInBounds_toArray, List.set_cons_zero, List.set_cons_succ]
  refine wpAnyH_take (i := 9) (oi := { dst := some 30, op := Go.Op.load 3 (Go.Operand.tmp 29), type := 3, pos := "arena.go:100", after := #[{ on := 8, ground := Go.Ground.data }], guard := none }) (v := .int .i64 (s : Nat)) rfl (by kernel_rfl) (by kernel_rfl) (by kernel_rfl) (fun _ _ _ h => h) (Or.inl ⟨by rfl, fun w hSw => by (try dsimp only at hSw); go_simp⟩) hS1 ?_
  simp only [Act.put, List.setIfInBounds_toArray, List.set_cons_zero, List.set_cons_succ]
  refine wpAnyH_ready (rs := [10, 16]) (by kernel_rfl) (by simp) (AllReadyH.cons (o := { dst := some 31, op := Go.Op.call { callee := Go.Callee.value (Go.Operand.func 39), args := #[Go.Operand.tmp 25, Go.Operand.tmp 30], argTypes := #[23, 3] }, type := 3, pos := "arena.go:100", after := #[{ on := 4, ground := Go.Ground.data }, { on := 9, ground := Go.Ground.data }], guard := none }) rfl (fun K hK => ?_) (AllReadyH.cons (o := { dst := some 5, op := Go.Op.alloc 48, type := 0, pos := "arena.go:100", after := #[], guard := none }) rfl (fun K hK => ?_) AllReadyH.nil))
  · go_simp
    go_at_call 39
    with_reducible refine (c2 _).mono ?_
    rintro e w4 ⟨rfl, b⟩
    (try simp only [])
    replace is := is.below b
    clear b
    refine hK.out _ _ (HC.out _ _ _ is) (fun hS1 => ?_)
    (try simp only [Act.put, List.setIfInBounds_toArray, List.set_cons_zero, List.set_cons_succ])
    clear hK K
    refine wpAnyH_ready (rs := [11, 16]) (by kernel_rfl) (by simp) (AllReadyH.cons (o := { dst := some 32, op := Go.Op.call { callee := Go.Callee.value (Go.Operand.func 50), args := #[Go.Operand.tmp 21, Go.Operand.tmp 31], argTypes := #[28, 3] }, type := 35, pos := "arena.go:100", after := #[{ on := 0, ground := Go.Ground.data }, { on := 10, ground := Go.Ground.data }, { on := 10, ground := Go.Ground.chain }], guard := none }) rfl (fun K hK => ?_) (AllReadyH.cons (o := { dst := some 5, op := Go.Op.alloc 48, type := 0, pos := "arena.go:100", after := #[], guard := none }) rfl (fun K hK => ?_) AllReadyH.nil))
    · go_simp
      go_at_call 50
      with_reducible refine (c0 _ is).mono ?_
      rintro e w5 ⟨rfl, i1, ho⟩
      (try simp only [])
      clear is
      have is := i1
      clear i1
      clear ho
      refine hK.out _ _ (HC.out _ _ _ is) (fun hS1 => ?_)
      (try simp only [Act.put, List.setIfInBounds_toArray, List.set_cons_zero, List.set_cons_succ])
      clear hK K
      refine wpAnyH_ready (rs := [12, 16]) (by kernel_rfl) (by simp) (AllReadyH.cons (o := { dst := some 33, op := Go.Op.call { callee := Go.Callee.value (Go.Operand.func 49), args := #[Go.Operand.tmp 32], argTypes := #[35] }, type := 49, pos := "arena.go:100", after := #[{ on := 11, ground := Go.Ground.data }, { on := 11, ground := Go.Ground.chain }], guard := none }) rfl (fun K hK => ?_) (AllReadyH.cons (o := { dst := some 5, op := Go.Op.alloc 48, type := 0, pos := "arena.go:100", after := #[], guard := none }) rfl (fun K hK => ?_) AllReadyH.nil))
      · go_simp
        go_at_call 49
        with_reducible refine (c3 _ is.wt).mono ?_
        rintro e w6 ⟨rfl, b⟩
        (try simp only [])
        replace is := is.below b
        clear b
        refine hK.out _ _ (HC.out _ _ _ is) (fun hS1 => ?_)
        (try simp only [Act.put, List.setIfInBounds_toArray, List.set_cons_zero, List.set_cons_succ])
        clear hK K
        refine wpAnyH_take (i := 13) (oi := { dst := some 20, op := Go.Op.move (Go.Operand.tmp 33), type := 49, pos := "arena.go:100", after := #[{ on := 12, ground := Go.Ground.data }], guard := none }) (v := .tuple #[.agg #[.int .i64 k', .int .i64 m', .bool g', .int .i64 a', .int .i64 (gv : Nat), .int .i64 s'], .bool z']) rfl (by kernel_rfl) (by kernel_rfl) (by kernel_rfl) (fun _ _ _ h => h) (Or.inl ⟨by rfl, fun w hSw => by (try dsimp only at hSw); go_simp⟩) hS1 ?_
        simp only [Act.put, List.setIfInBounds_toArray, List.set_cons_zero, List.set_cons_succ]
        refine wpAnyH_take (i := 14) (oi := { dst := some 34, op := Go.Op.extract (Go.Operand.tmp 20) 0, type := 48, pos := "arena.go:100", after := #[{ on := 13, ground := Go.Ground.data }], guard := none }) (v := .agg #[.int .i64 k', .int .i64 m', .bool g', .int .i64 a', .int .i64 (gv : Nat), .int .i64 s']) rfl (by kernel_rfl) (by kernel_rfl) (by kernel_rfl) (fun _ _ _ h => h) (Or.inl ⟨by rfl, fun w hSw => by (try dsimp only at hSw); go_simp⟩) hS1 ?_
        simp only [Act.put, List.setIfInBounds_toArray, List.set_cons_zero, List.set_cons_succ]
        refine wpAnyH_take (i := 15) (oi := { dst := some 35, op := Go.Op.extract (Go.Operand.tmp 20) 1, type := 4, pos := "arena.go:100", after := #[{ on := 13, ground := Go.Ground.data }, { on := 17, ground := Go.Ground.gcOnly Go.Departure.lateStores }], guard := none }) (v := .bool z') rfl (by kernel_rfl) (by kernel_rfl) (by kernel_rfl) (fun _ _ _ h => h) (Or.inl ⟨by rfl, fun w hSw => by (try dsimp only at hSw); go_simp⟩) hS1 ?_
        simp only [Act.put, List.setIfInBounds_toArray, List.set_cons_zero, List.set_cons_succ]
        refine wpAnyH_ready (rs := [16]) (by kernel_rfl) (by simp) (AllReadyH.cons (o := { dst := some 5, op := Go.Op.alloc 48, type := 0, pos := "arena.go:100", after := #[], guard := none }) rfl (fun K hK => ?_) AllReadyH.nil)
        go_simp
        have hz : Hid _ := HdZ.ofNew is
        replace is := is.below (alloc_below _ (.cells #[.int .i64 0, .int .i64 0, .bool false, .int .i64 0, .int .i64 0, .int .i64 0] 48))
        refine hK.out _ _ (HC.out _ _ _ is) (fun hS1 => ?_)
        (try simp only [Act.put, List.setIfInBounds_toArray, List.set_cons_zero, List.set_cons_succ])
        clear hK K
        generalize w6.heap.size = R at hz ⊢
        generalize w6.alloc (.cells #[.int .i64 0, .int .i64 0, .bool false, .int .i64 0, .int .i64 0, .int .i64 0] 48) = wA at *
        refine wpAnyH_ready (rs := [17]) (by kernel_rfl) (by simp) (AllReadyH.cons (o := { dst := none, op := Go.Op.store 48 (Go.Operand.tmp 5) (Go.Operand.tmp 34), type := 0, pos := "arena.go:100", after := #[{ on := 16, ground := Go.Ground.data }, { on := 14, ground := Go.Ground.data }, { on := 12, ground := Go.Ground.chain }, { on := 0, ground := Go.Ground.phase }, { on := 1, ground := Go.Ground.phase }, { on := 2, ground := Go.Ground.phase }, { on := 3, ground := Go.Ground.phase }, { on := 4, ground := Go.Ground.phase }, { on := 5, ground := Go.Ground.phase }, { on := 6, ground := Go.Ground.phase }, { on := 7, ground := Go.Ground.phase }, { on := 8, ground := Go.Ground.phase }, { on := 9, ground := Go.Ground.phase }, { on := 10, ground := Go.Ground.phase }, { on := 11, ground := Go.Ground.phase }, { on := 12, ground := Go.Ground.phase }, { on := 13, ground := Go.Ground.phase }, { on := 14, ground := Go.Ground.phase }, { on := 15, ground := Go.Ground.textOnly Go.Departure.lateStores }, { on := 16, ground := Go.Ground.phase }], guard := none }) rfl (fun K hK => ?_) AllReadyH.nil)
        obtain ⟨⟨q0, q1, q2, q3, q4, q5⟩, y⟩ := hz.out.cells
        have y0 := y 0
        have y1 := y 1
        have y2 := y 2
        have y3 := y 3
        have y4 := y 4
        have y5 := y 5
        clear y
        go_simp
        replace is := is.six hz.out hws.out (.int .i64 k') (.int .i64 m') (.bool g') (.int .i64 a') (.int .i64 (gv : Nat)) (.int .i64 s')
        have hg4 := hz.out.got k' m' g' a' gv s'
        refine hK.out _ _ (HC.out _ _ _ is) (fun hS1 => ?_)
        (try simp only [Act.put, List.setIfInBounds_toArray, List.set_cons_zero, List.set_cons_succ])
        clear hK K q0 q1 q2 q3 q4 q5 y0 y1 y2 y3 y4 y5 hz
        refine wpAnyH_take (i := 18) (oi := { dst := some 6, op := Go.Op.assign (Go.Operand.tmp 35), type := 4, pos := "arena.go:100", after := #[{ on := 15, ground := Go.Ground.data }, { on := 17, ground := Go.Ground.chain }, { on := 0, ground := Go.Ground.phase }, { on := 1, ground := Go.Ground.phase }, { on := 2, ground := Go.Ground.phase }, { on := 3, ground := Go.Ground.phase }, { on := 4, ground := Go.Ground.phase }, { on := 5, ground := Go.Ground.phase }, { on := 6, ground := Go.Ground.phase }, { on := 7, ground := Go.Ground.phase }, { on := 8, ground := Go.Ground.phase }, { on := 9, ground := Go.Ground.phase }, { on := 10, ground := Go.Ground.phase }, { on := 11, ground := Go.Ground.phase }, { on := 12, ground := Go.Ground.phase }, { on := 13, ground := Go.Ground.phase }, { on := 14, ground := Go.Ground.phase }, { on := 15, ground := Go.Ground.phase }, { on := 16, ground := Go.Ground.phase }, { on := 17, ground := Go.Ground.phase }], guard := none }) (v := .bool z') rfl (by kernel_rfl) (by kernel_rfl) (by kernel_rfl) (fun _ _ _ h => h) (Or.inl ⟨by rfl, fun w hSw => by (try dsimp only at hSw); go_simp⟩) hS1 ?_
        simp only [Act.put, List.setIfInBounds_toArray, List.set_cons_zero, List.set_cons_succ]
        refine wpAnyH_done (by kernel_rfl) ?_ _
        clear hS1
        generalize (((((((wA.setCell ⟨R, 0, none⟩ (.int .i64 k')).setCell ⟨R, 1, none⟩ (.int .i64 m')).setCell ⟨R, 2, none⟩ (.bool g')).setCell ⟨R, 3, none⟩ (.int .i64 a')).setCell ⟨R, 4, none⟩ (.int .i64 (gv : Nat))).setCell ⟨R, 5, none⟩ (.int .i64 s'))) = wf at *
        obtain ⟨k24, f24⟩ := HG.out _ _ _ is
        replace is := is.set 24 (.int .i64 (gv : Nat))
        go_upto_region 9 with fail
        clear k24 f24 hg4
        generalize wf.setCell ⟨P, 24, none⟩ (.int .i64 (gv : Nat)) = wg at *
        have k23 := is.cell N1.out.pc
        have f23 := is.free 23
        replace is := is.set 23 (.int .i64 2)
        go_upto_region 14 with fail
        clear k23 f23
        generalize wg.setCell ⟨P, 23, none⟩ (.int .i64 2) = wh at *
        have k23 := is.cell N2.out.pc
        simp only at k23
        go_wp2
        go_ret
        exact ⟨rfl, _, is, N2.out⟩
      · go_simp
        have hz : Hid _ := HdZ.ofNew is
        replace is := is.below (alloc_below _ (.cells #[.int .i64 0, .int .i64 0, .bool false, .int .i64 0, .int .i64 0, .int .i64 0] 48))
        refine hK.out _ _ (HC.out _ _ _ is) (fun hS1 => ?_)
        (try simp only [Act.put, List.setIfInBounds_toArray, List.set_cons_zero, List.set_cons_succ])
        clear hK K
        generalize w5.heap.size = R at hz ⊢
        generalize w5.alloc (.cells #[.int .i64 0, .int .i64 0, .bool false, .int .i64 0, .int .i64 0, .int .i64 0] 48) = wA at *
        refine wpAnyH_ready (rs := [12]) (by kernel_rfl) (by simp) (AllReadyH.cons (o := { dst := some 33, op := Go.Op.call { callee := Go.Callee.value (Go.Operand.func 49), args := #[Go.Operand.tmp 32], argTypes := #[35] }, type := 49, pos := "arena.go:100", after := #[{ on := 11, ground := Go.Ground.data }, { on := 11, ground := Go.Ground.chain }], guard := none }) rfl (fun K hK => ?_) AllReadyH.nil)
        go_simp
        go_at_call 49
        with_reducible refine (c3 _ is.wt).mono ?_
        rintro e w6 ⟨rfl, b⟩
        (try simp only [])
        replace is := is.below b
        replace hz : Hid _ := hz.out.below b
        clear b
        refine hK.out _ _ (HC.out _ _ _ is) (fun hS1 => ?_)
        (try simp only [Act.put, List.setIfInBounds_toArray, List.set_cons_zero, List.set_cons_succ])
        clear hK K
        refine wpAnyH_take (i := 13) (oi := { dst := some 20, op := Go.Op.move (Go.Operand.tmp 33), type := 49, pos := "arena.go:100", after := #[{ on := 12, ground := Go.Ground.data }], guard := none }) (v := .tuple #[.agg #[.int .i64 k', .int .i64 m', .bool g', .int .i64 a', .int .i64 (gv : Nat), .int .i64 s'], .bool z']) rfl (by kernel_rfl) (by kernel_rfl) (by kernel_rfl) (fun _ _ _ h => h) (Or.inl ⟨by rfl, fun w hSw => by (try dsimp only at hSw); go_simp⟩) hS1 ?_
        simp only [Act.put, List.setIfInBounds_toArray, List.set_cons_zero, List.set_cons_succ]
        refine wpAnyH_take (i := 14) (oi := { dst := some 34, op := Go.Op.extract (Go.Operand.tmp 20) 0, type := 48, pos := "arena.go:100", after := #[{ on := 13, ground := Go.Ground.data }], guard := none }) (v := .agg #[.int .i64 k', .int .i64 m', .bool g', .int .i64 a', .int .i64 (gv : Nat), .int .i64 s']) rfl (by kernel_rfl) (by kernel_rfl) (by kernel_rfl) (fun _ _ _ h => h) (Or.inl ⟨by rfl, fun w hSw => by (try dsimp only at hSw); go_simp⟩) hS1 ?_
        simp only [Act.put, List.setIfInBounds_toArray, List.set_cons_zero, List.set_cons_succ]
        refine wpAnyH_take (i := 15) (oi := { dst := some 35, op := Go.Op.extract (Go.Operand.tmp 20) 1, type := 4, pos := "arena.go:100", after := #[{ on := 13, ground := Go.Ground.data }, { on := 17, ground := Go.Ground.gcOnly Go.Departure.lateStores }], guard := none }) (v := .bool z') rfl (by kernel_rfl) (by kernel_rfl) (by kernel_rfl) (fun _ _ _ h => h) (Or.inl ⟨by rfl, fun w hSw => by (try dsimp only at hSw); go_simp⟩) hS1 ?_
        simp only [Act.put, List.setIfInBounds_toArray, List.set_cons_zero, List.set_cons_succ]
        refine wpAnyH_ready (rs := [17]) (by kernel_rfl) (by simp) (AllReadyH.cons (o := { dst := none, op := Go.Op.store 48 (Go.Operand.tmp 5) (Go.Operand.tmp 34), type := 0, pos := "arena.go:100", after := #[{ on := 16, ground := Go.Ground.data }, { on := 14, ground := Go.Ground.data }, { on := 12, ground := Go.Ground.chain }, { on := 0, ground := Go.Ground.phase }, { on := 1, ground := Go.Ground.phase }, { on := 2, ground := Go.Ground.phase }, { on := 3, ground := Go.Ground.phase }, { on := 4, ground := Go.Ground.phase }, { on := 5, ground := Go.Ground.phase }, { on := 6, ground := Go.Ground.phase }, { on := 7, ground := Go.Ground.phase }, { on := 8, ground := Go.Ground.phase }, { on := 9, ground := Go.Ground.phase }, { on := 10, ground := Go.Ground.phase }, { on := 11, ground := Go.Ground.phase }, { on := 12, ground := Go.Ground.phase }, { on := 13, ground := Go.Ground.phase }, { on := 14, ground := Go.Ground.phase }, { on := 15, ground := Go.Ground.textOnly Go.Departure.lateStores }, { on := 16, ground := Go.Ground.phase }], guard := none }) rfl (fun K hK => ?_) AllReadyH.nil)
        obtain ⟨⟨q0, q1, q2, q3, q4, q5⟩, y⟩ := hz.out.cells
        have y0 := y 0
        have y1 := y 1
        have y2 := y 2
        have y3 := y 3
        have y4 := y 4
        have y5 := y 5
        clear y
        go_simp
        replace is := is.six hz.out hws.out (.int .i64 k') (.int .i64 m') (.bool g') (.int .i64 a') (.int .i64 (gv : Nat)) (.int .i64 s')
        have hg4 := hz.out.got k' m' g' a' gv s'
        refine hK.out _ _ (HC.out _ _ _ is) (fun hS1 => ?_)
        (try simp only [Act.put, List.setIfInBounds_toArray, List.set_cons_zero, List.set_cons_succ])
        clear hK K q0 q1 q2 q3 q4 q5 y0 y1 y2 y3 y4 y5 hz
        refine wpAnyH_take (i := 18) (oi := { dst := some 6, op := Go.Op.assign (Go.Operand.tmp 35), type := 4, pos := "arena.go:100", after := #[{ on := 15, ground := Go.Ground.data }, { on := 17, ground := Go.Ground.chain }, { on := 0, ground := Go.Ground.phase }, { on := 1, ground := Go.Ground.phase }, { on := 2, ground := Go.Ground.phase }, { on := 3, ground := Go.Ground.phase }, { on := 4, ground := Go.Ground.phase }, { on := 5, ground := Go.Ground.phase }, { on := 6, ground := Go.Ground.phase }, { on := 7, ground := Go.Ground.phase }, { on := 8, ground := Go.Ground.phase }, { on := 9, ground := Go.Ground.phase }, { on := 10, ground := Go.Ground.phase }, { on := 11, ground := Go.Ground.phase }, { on := 12, ground := Go.Ground.phase }, { on := 13, ground := Go.Ground.phase }, { on := 14, ground := Go.Ground.phase }, { on := 15, ground := Go.Ground.phase }, { on := 16, ground := Go.Ground.phase }, { on := 17, ground := Go.Ground.phase }], guard := none }) (v := .bool z') rfl (by kernel_rfl) (by kernel_rfl) (by kernel_rfl) (fun _ _ _ h => h) (Or.inl ⟨by rfl, fun w hSw => by (try dsimp only at hSw); go_simp⟩) hS1 ?_
        simp only [Act.put, List.setIfInBounds_toArray, List.set_cons_zero, List.set_cons_succ]
        refine wpAnyH_done (by kernel_rfl) ?_ _
        clear hS1
        generalize (((((((w6.setCell ⟨R, 0, none⟩ (.int .i64 k')).setCell ⟨R, 1, none⟩ (.int .i64 m')).setCell ⟨R, 2, none⟩ (.bool g')).setCell ⟨R, 3, none⟩ (.int .i64 a')).setCell ⟨R, 4, none⟩ (.int .i64 (gv : Nat))).setCell ⟨R, 5, none⟩ (.int .i64 s'))) = wf at *
        obtain ⟨k24, f24⟩ := HG.out _ _ _ is
        replace is := is.set 24 (.int .i64 (gv : Nat))
        go_upto_region 9 with fail
        clear k24 f24 hg4
        generalize wf.setCell ⟨P, 24, none⟩ (.int .i64 (gv : Nat)) = wg at *
        have k23 := is.cell N1.out.pc
        have f23 := is.free 23
        replace is := is.set 23 (.int .i64 2)
        go_upto_region 14 with fail
        clear k23 f23
        generalize wg.setCell ⟨P, 23, none⟩ (.int .i64 2) = wh at *
        have k23 := is.cell N2.out.pc
        simp only at k23
        go_wp2
        go_ret
        exact ⟨rfl, _, is, N2.out⟩
    · go_simp
      have hz : Hid _ := HdZ.ofNew is
      replace is := is.below (alloc_below _ (.cells #[.int .i64 0, .int .i64 0, .bool false, .int .i64 0, .int .i64 0, .int .i64 0] 48))
      refine hK.out _ _ (HC.out _ _ _ is) (fun hS1 => ?_)
      (try simp only [Act.put, List.setIfInBounds_toArray, List.set_cons_zero, List.set_cons_succ])
      clear hK K
      generalize w4.heap.size = R at hz ⊢
      generalize w4.alloc (.cells #[.int .i64 0, .int .i64 0, .bool false, .int .i64 0, .int .i64 0, .int .i64 0] 48) = wA at *
      refine wpAnyH_ready (rs := [11]) (by kernel_rfl) (by simp) (AllReadyH.cons (o := { dst := some 32, op := Go.Op.call { callee := Go.Callee.value (Go.Operand.func 50), args := #[Go.Operand.tmp 21, Go.Operand.tmp 31], argTypes := #[28, 3] }, type := 35, pos := "arena.go:100", after := #[{ on := 0, ground := Go.Ground.data }, { on := 10, ground := Go.Ground.data }, { on := 10, ground := Go.Ground.chain }], guard := none }) rfl (fun K hK => ?_) AllReadyH.nil)
      go_simp
      go_at_call 50
      with_reducible refine (c0 _ is).mono ?_
      rintro e w5 ⟨rfl, i1, ho⟩
      (try simp only [])
      clear is
      have is := i1
      clear i1
      replace hz : Hid _ := hz.out.only ho
      clear ho
      refine hK.out _ _ (HC.out _ _ _ is) (fun hS1 => ?_)
      (try simp only [Act.put, List.setIfInBounds_toArray, List.set_cons_zero, List.set_cons_succ])
      clear hK K
      refine wpAnyH_ready (rs := [12]) (by kernel_rfl) (by simp) (AllReadyH.cons (o := { dst := some 33, op := Go.Op.call { callee := Go.Callee.value (Go.Operand.func 49), args := #[Go.Operand.tmp 32], argTypes := #[35] }, type := 49, pos := "arena.go:100", after := #[{ on := 11, ground := Go.Ground.data }, { on := 11, ground := Go.Ground.chain }], guard := none }) rfl (fun K hK => ?_) AllReadyH.nil)
      go_simp
      go_at_call 49
      with_reducible refine (c3 _ is.wt).mono ?_
      rintro e w6 ⟨rfl, b⟩
      (try simp only [])
      replace is := is.below b
      replace hz : Hid _ := hz.out.below b
      clear b
      refine hK.out _ _ (HC.out _ _ _ is) (fun hS1 => ?_)
      (try simp only [Act.put, List.setIfInBounds_toArray, List.set_cons_zero, List.set_cons_succ])
      clear hK K
      refine wpAnyH_take (i := 13) (oi := { dst := some 20, op := Go.Op.move (Go.Operand.tmp 33), type := 49, pos := "arena.go:100", after := #[{ on := 12, ground := Go.Ground.data }], guard := none }) (v := .tuple #[.agg #[.int .i64 k', .int .i64 m', .bool g', .int .i64 a', .int .i64 (gv : Nat), .int .i64 s'], .bool z']) rfl (by kernel_rfl) (by kernel_rfl) (by kernel_rfl) (fun _ _ _ h => h) (Or.inl ⟨by rfl, fun w hSw => by (try dsimp only at hSw); go_simp⟩) hS1 ?_
      simp only [Act.put, List.setIfInBounds_toArray, List.set_cons_zero, List.set_cons_succ]
      refine wpAnyH_take (i := 14) (oi := { dst := some 34, op := Go.Op.extract (Go.Operand.tmp 20) 0, type := 48, pos := "arena.go:100", after := #[{ on := 13, ground := Go.Ground.data }], guard := none }) (v := .agg #[.int .i64 k', .int .i64 m', .bool g', .int .i64 a', .int .i64 (gv : Nat), .int .i64 s']) rfl (by kernel_rfl) (by kernel_rfl) (by kernel_rfl) (fun _ _ _ h => h) (Or.inl ⟨by rfl, fun w hSw => by (try dsimp only at hSw); go_simp⟩) hS1 ?_
      simp only [Act.put, List.setIfInBounds_toArray, List.set_cons_zero, List.set_cons_succ]
      refine wpAnyH_take (i := 15) (oi := { dst := some 35, op := Go.Op.extract (Go.Operand.tmp 20) 1, type := 4, pos := "arena.go:100", after := #[{ on := 13, ground := Go.Ground.data }, { on := 17, ground := Go.Ground.gcOnly Go.Departure.lateStores }], guard := none }) (v := .bool z') rfl (by kernel_rfl) (by kernel_rfl) (by kernel_rfl) (fun _ _ _ h => h) (Or.inl ⟨by rfl, fun w hSw => by (try dsimp only at hSw); go_simp⟩) hS1 ?_
      simp only [Act.put, List.setIfInBounds_toArray, List.set_cons_zero, List.set_cons_succ]
      refine wpAnyH_ready (rs := [17]) (by kernel_rfl) (by simp) (AllReadyH.cons (o := { dst := none, op := Go.Op.store 48 (Go.Operand.tmp 5) (Go.Operand.tmp 34), type := 0, pos := "arena.go:100", after := #[{ on := 16, ground := Go.Ground.data }, { on := 14, ground := Go.Ground.data }, { on := 12, ground := Go.Ground.chain }, { on := 0, ground := Go.Ground.phase }, { on := 1, ground := Go.Ground.phase }, { on := 2, ground := Go.Ground.phase }, { on := 3, ground := Go.Ground.phase }, { on := 4, ground := Go.Ground.phase }, { on := 5, ground := Go.Ground.phase }, { on := 6, ground := Go.Ground.phase }, { on := 7, ground := Go.Ground.phase }, { on := 8, ground := Go.Ground.phase }, { on := 9, ground := Go.Ground.phase }, { on := 10, ground := Go.Ground.phase }, { on := 11, ground := Go.Ground.phase }, { on := 12, ground := Go.Ground.phase }, { on := 13, ground := Go.Ground.phase }, { on := 14, ground := Go.Ground.phase }, { on := 15, ground := Go.Ground.textOnly Go.Departure.lateStores }, { on := 16, ground := Go.Ground.phase }], guard := none }) rfl (fun K hK => ?_) AllReadyH.nil)
      obtain ⟨⟨q0, q1, q2, q3, q4, q5⟩, y⟩ := hz.out.cells
      have y0 := y 0
      have y1 := y 1
      have y2 := y 2
      have y3 := y 3
      have y4 := y 4
      have y5 := y 5
      clear y
      go_simp
      replace is := is.six hz.out hws.out (.int .i64 k') (.int .i64 m') (.bool g') (.int .i64 a') (.int .i64 (gv : Nat)) (.int .i64 s')
      have hg4 := hz.out.got k' m' g' a' gv s'
      refine hK.out _ _ (HC.out _ _ _ is) (fun hS1 => ?_)
      (try simp only [Act.put, List.setIfInBounds_toArray, List.set_cons_zero, List.set_cons_succ])
      clear hK K q0 q1 q2 q3 q4 q5 y0 y1 y2 y3 y4 y5 hz
      refine wpAnyH_take (i := 18) (oi := { dst := some 6, op := Go.Op.assign (Go.Operand.tmp 35), type := 4, pos := "arena.go:100", after := #[{ on := 15, ground := Go.Ground.data }, { on := 17, ground := Go.Ground.chain }, { on := 0, ground := Go.Ground.phase }, { on := 1, ground := Go.Ground.phase }, { on := 2, ground := Go.Ground.phase }, { on := 3, ground := Go.Ground.phase }, { on := 4, ground := Go.Ground.phase }, { on := 5, ground := Go.Ground.phase }, { on := 6, ground := Go.Ground.phase }, { on := 7, ground := Go.Ground.phase }, { on := 8, ground := Go.Ground.phase }, { on := 9, ground := Go.Ground.phase }, { on := 10, ground := Go.Ground.phase }, { on := 11, ground := Go.Ground.phase }, { on := 12, ground := Go.Ground.phase }, { on := 13, ground := Go.Ground.phase }, { on := 14, ground := Go.Ground.phase }, { on := 15, ground := Go.Ground.phase }, { on := 16, ground := Go.Ground.phase }, { on := 17, ground := Go.Ground.phase }], guard := none }) (v := .bool z') rfl (by kernel_rfl) (by kernel_rfl) (by kernel_rfl) (fun _ _ _ h => h) (Or.inl ⟨by rfl, fun w hSw => by (try dsimp only at hSw); go_simp⟩) hS1 ?_
      simp only [Act.put, List.setIfInBounds_toArray, List.set_cons_zero, List.set_cons_succ]
      refine wpAnyH_done (by kernel_rfl) ?_ _
      clear hS1
      generalize (((((((w6.setCell ⟨R, 0, none⟩ (.int .i64 k')).setCell ⟨R, 1, none⟩ (.int .i64 m')).setCell ⟨R, 2, none⟩ (.bool g')).setCell ⟨R, 3, none⟩ (.int .i64 a')).setCell ⟨R, 4, none⟩ (.int .i64 (gv : Nat))).setCell ⟨R, 5, none⟩ (.int .i64 s'))) = wf at *
      obtain ⟨k24, f24⟩ := HG.out _ _ _ is
      replace is := is.set 24 (.int .i64 (gv : Nat))
      go_upto_region 9 with fail
      clear k24 f24 hg4
      generalize wf.setCell ⟨P, 24, none⟩ (.int .i64 (gv : Nat)) = wg at *
      have k23 := is.cell N1.out.pc
      have f23 := is.free 23
      replace is := is.set 23 (.int .i64 2)
      go_upto_region 14 with fail
      clear k23 f23
      generalize wg.setCell ⟨P, 23, none⟩ (.int .i64 2) = wh at *
      have k23 := is.cell N2.out.pc
      simp only at k23
      go_wp2
      go_ret
      exact ⟨rfl, _, is, N2.out⟩
  · go_simp
    have hz : Hid _ := HdZ.ofNewD is0
    replace is := (is0.below (alloc_below _ (.cells #[.int .i64 0, .int .i64 0, .bool false, .int .i64 0, .int .i64 0, .int .i64 0] 48))).drew
    refine hK.out _ _ (HC.out _ _ _ is) (fun hS1 => ?_)
    (try simp only [Act.put, List.setIfInBounds_toArray, List.set_cons_zero, List.set_cons_succ])
    clear hK K
    generalize w.heap.size = R at hz ⊢
    generalize (w.alloc (.cells #[.int .i64 0, .int .i64 0, .bool false, .int .i64 0, .int .i64 0, .int .i64 0] 48)).drew = wA at *
    refine wpAnyH_ready (rs := [10]) (by kernel_rfl) (by simp) (AllReadyH.cons (o := { dst := some 31, op := Go.Op.call { callee := Go.Callee.value (Go.Operand.func 39), args := #[Go.Operand.tmp 25, Go.Operand.tmp 30], argTypes := #[23, 3] }, type := 3, pos := "arena.go:100", after := #[{ on := 4, ground := Go.Ground.data }, { on := 9, ground := Go.Ground.data }], guard := none }) rfl (fun K hK => ?_) AllReadyH.nil)
    go_simp
    go_at_call 39
    with_reducible refine (c2 _).mono ?_
    rintro e w4 ⟨rfl, b⟩
    (try simp only [])
    replace is := is.below b
    replace hz : Hid _ := hz.out.below b
    clear b
    refine hK.out _ _ (HC.out _ _ _ is) (fun hS1 => ?_)
    (try simp only [Act.put, List.setIfInBounds_toArray, List.set_cons_zero, List.set_cons_succ])
    clear hK K
    refine wpAnyH_ready (rs := [11]) (by kernel_rfl) (by simp) (AllReadyH.cons (o := { dst := some 32, op := Go.Op.call { callee := Go.Callee.value (Go.Operand.func 50), args := #[Go.Operand.tmp 21, Go.Operand.tmp 31], argTypes := #[28, 3] }, type := 35, pos := "arena.go:100", after := #[{ on := 0, ground := Go.Ground.data }, { on := 10, ground := Go.Ground.data }, { on := 10, ground := Go.Ground.chain }], guard := none }) rfl (fun K hK => ?_) AllReadyH.nil)
    go_simp
    go_at_call 50
    with_reducible refine (c0 _ is).mono ?_
    rintro e w5 ⟨rfl, i1, ho⟩
    (try simp only [])
    clear is
    have is := i1
    clear i1
    replace hz : Hid _ := hz.out.only ho
    clear ho
    refine hK.out _ _ (HC.out _ _ _ is) (fun hS1 => ?_)
    (try simp only [Act.put, List.setIfInBounds_toArray, List.set_cons_zero, List.set_cons_succ])
    clear hK K
    refine wpAnyH_ready (rs := [12]) (by kernel_rfl) (by simp) (AllReadyH.cons (o := { dst := some 33, op := Go.Op.call { callee := Go.Callee.value (Go.Operand.func 49), args := #[Go.Operand.tmp 32], argTypes := #[35] }, type := 49, pos := "arena.go:100", after := #[{ on := 11, ground := Go.Ground.data }, { on := 11, ground := Go.Ground.chain }], guard := none }) rfl (fun K hK => ?_) AllReadyH.nil)
    go_simp
    go_at_call 49
    with_reducible refine (c3 _ is.wt).mono ?_
    rintro e w6 ⟨rfl, b⟩
    (try simp only [])
    replace is := is.below b
    replace hz : Hid _ := hz.out.below b
    clear b
    refine hK.out _ _ (HC.out _ _ _ is) (fun hS1 => ?_)
    (try simp only [Act.put, List.setIfInBounds_toArray, List.set_cons_zero, List.set_cons_succ])
    clear hK K
    refine wpAnyH_take (i := 13) (oi := { dst := some 20, op := Go.Op.move (Go.Operand.tmp 33), type := 49, pos := "arena.go:100", after := #[{ on := 12, ground := Go.Ground.data }], guard := none }) (v := .tuple #[.agg #[.int .i64 k', .int .i64 m', .bool g', .int .i64 a', .int .i64 (gv : Nat), .int .i64 s'], .bool z']) rfl (by kernel_rfl) (by kernel_rfl) (by kernel_rfl) (fun _ _ _ h => h) (Or.inl ⟨by rfl, fun w hSw => by (try dsimp only at hSw); go_simp⟩) hS1 ?_
    simp only [Act.put, List.setIfInBounds_toArray, List.set_cons_zero, List.set_cons_succ]
    refine wpAnyH_take (i := 14) (oi := { dst := some 34, op := Go.Op.extract (Go.Operand.tmp 20) 0, type := 48, pos := "arena.go:100", after := #[{ on := 13, ground := Go.Ground.data }], guard := none }) (v := .agg #[.int .i64 k', .int .i64 m', .bool g', .int .i64 a', .int .i64 (gv : Nat), .int .i64 s']) rfl (by kernel_rfl) (by kernel_rfl) (by kernel_rfl) (fun _ _ _ h => h) (Or.inl ⟨by rfl, fun w hSw => by (try dsimp only at hSw); go_simp⟩) hS1 ?_
    simp only [Act.put, List.setIfInBounds_toArray, List.set_cons_zero, List.set_cons_succ]
    refine wpAnyH_take (i := 15) (oi := { dst := some 35, op := Go.Op.extract (Go.Operand.tmp 20) 1, type := 4, pos := "arena.go:100", after := #[{ on := 13, ground := Go.Ground.data }, { on := 17, ground := Go.Ground.gcOnly Go.Departure.lateStores }], guard := none }) (v := .bool z') rfl (by kernel_rfl) (by kernel_rfl) (by kernel_rfl) (fun _ _ _ h => h) (Or.inl ⟨by rfl, fun w hSw => by (try dsimp only at hSw); go_simp⟩) hS1 ?_
    simp only [Act.put, List.setIfInBounds_toArray, List.set_cons_zero, List.set_cons_succ]
    refine wpAnyH_ready (rs := [17]) (by kernel_rfl) (by simp) (AllReadyH.cons (o := { dst := none, op := Go.Op.store 48 (Go.Operand.tmp 5) (Go.Operand.tmp 34), type := 0, pos := "arena.go:100", after := #[{ on := 16, ground := Go.Ground.data }, { on := 14, ground := Go.Ground.data }, { on := 12, ground := Go.Ground.chain }, { on := 0, ground := Go.Ground.phase }, { on := 1, ground := Go.Ground.phase }, { on := 2, ground := Go.Ground.phase }, { on := 3, ground := Go.Ground.phase }, { on := 4, ground := Go.Ground.phase }, { on := 5, ground := Go.Ground.phase }, { on := 6, ground := Go.Ground.phase }, { on := 7, ground := Go.Ground.phase }, { on := 8, ground := Go.Ground.phase }, { on := 9, ground := Go.Ground.phase }, { on := 10, ground := Go.Ground.phase }, { on := 11, ground := Go.Ground.phase }, { on := 12, ground := Go.Ground.phase }, { on := 13, ground := Go.Ground.phase }, { on := 14, ground := Go.Ground.phase }, { on := 15, ground := Go.Ground.textOnly Go.Departure.lateStores }, { on := 16, ground := Go.Ground.phase }], guard := none }) rfl (fun K hK => ?_) AllReadyH.nil)
    obtain ⟨⟨q0, q1, q2, q3, q4, q5⟩, y⟩ := hz.out.cells
    have y0 := y 0
    have y1 := y 1
    have y2 := y 2
    have y3 := y 3
    have y4 := y 4
    have y5 := y 5
    clear y
    go_simp
    replace is := is.six hz.out hws.out (.int .i64 k') (.int .i64 m') (.bool g') (.int .i64 a') (.int .i64 (gv : Nat)) (.int .i64 s')
    have hg4 := hz.out.got k' m' g' a' gv s'
    refine hK.out _ _ (HC.out _ _ _ is) (fun hS1 => ?_)
    (try simp only [Act.put, List.setIfInBounds_toArray, List.set_cons_zero, List.set_cons_succ])
    clear hK K q0 q1 q2 q3 q4 q5 y0 y1 y2 y3 y4 y5 hz
    refine wpAnyH_take (i := 18) (oi := { dst := some 6, op := Go.Op.assign (Go.Operand.tmp 35), type := 4, pos := "arena.go:100", after := #[{ on := 15, ground := Go.Ground.data }, { on := 17, ground := Go.Ground.chain }, { on := 0, ground := Go.Ground.phase }, { on := 1, ground := Go.Ground.phase }, { on := 2, ground := Go.Ground.phase }, { on := 3, ground := Go.Ground.phase }, { on := 4, ground := Go.Ground.phase }, { on := 5, ground := Go.Ground.phase }, { on := 6, ground := Go.Ground.phase }, { on := 7, ground := Go.Ground.phase }, { on := 8, ground := Go.Ground.phase }, { on := 9, ground := Go.Ground.phase }, { on := 10, ground := Go.Ground.phase }, { on := 11, ground := Go.Ground.phase }, { on := 12, ground := Go.Ground.phase }, { on := 13, ground := Go.Ground.phase }, { on := 14, ground := Go.Ground.phase }, { on := 15, ground := Go.Ground.phase }, { on := 16, ground := Go.Ground.phase }, { on := 17, ground := Go.Ground.phase }], guard := none }) (v := .bool z') rfl (by kernel_rfl) (by kernel_rfl) (by kernel_rfl) (fun _ _ _ h => h) (Or.inl ⟨by rfl, fun w hSw => by (try dsimp only at hSw); go_simp⟩) hS1 ?_
    simp only [Act.put, List.setIfInBounds_toArray, List.set_cons_zero, List.set_cons_succ]
    refine wpAnyH_done (by kernel_rfl) ?_ _
    clear hS1
    generalize (((((((w6.setCell ⟨R, 0, none⟩ (.int .i64 k')).setCell ⟨R, 1, none⟩ (.int .i64 m')).setCell ⟨R, 2, none⟩ (.bool g')).setCell ⟨R, 3, none⟩ (.int .i64 a')).setCell ⟨R, 4, none⟩ (.int .i64 (gv : Nat))).setCell ⟨R, 5, none⟩ (.int .i64 s'))) = wf at *
    obtain ⟨k24, f24⟩ := HG.out _ _ _ is
    replace is := is.set 24 (.int .i64 (gv : Nat))
    go_upto_region 9 with fail
    clear k24 f24 hg4
    generalize wf.setCell ⟨P, 24, none⟩ (.int .i64 (gv : Nat)) = wg at *
    have k23 := is.cell N1.out.pc
    have f23 := is.free 23
    replace is := is.set 23 (.int .i64 2)
    go_upto_region 14 with fail
    clear k23 f23
    generalize wg.setCell ⟨P, 23, none⟩ (.int .i64 2) = wh at *
    have k23 := is.cell N2.out.pc
    simp only at k23
    go_wp2
    go_ret
    exact ⟨rfl, _, is, N2.out⟩

/-- A Make's step. -/
theorem mk_any {w : World} {M G P : Nat} {X : List Nat} {T : Int} {c : Array Value} {t : TypeId} {K : Cf} {m : Mk} (hK : K.Ok) (is : InA w w M G K.N X T P c t) (hm : MkAt c K m) (hk : m.Ok K) (h3 : m.pc ≤ 3) (hb : IsWords w m.bb m.body) (hbb : m.bb ∉ [P, M, G]) (hT : T + 1 < 4611686018427387904) :
    Calls Tryd.prog 20 #[.pointer (some ⟨P, 0, none⟩), .pointer (some ⟨M, 0, none⟩)] w fun r w' => r = .returned (.bool (decide ((mkX K X m).2.pc = 4))) ∧ ∃ c', InA w w' M G K.N (mkX K X m).1 (T + 1) P c' t ∧ MkAt c' K (mkX K X m).2 := by
  have hX := fun i => is.mem.fits i
  have h4 : m.pc = 0 ∨ m.pc = 1 ∨ m.pc = 2 ∨ m.pc = 3 := by omega
  rcases h4 with h | h | h | h
  · have e : mkX K X m = ((popX K X m.p).1, if (popX K X m.p).2.pc = 3 then
        (if (popX K X m.p).2.em = true then { m with p := (popX K X m.p).2, full := true, pc := 4 } else { m with p := (popX K X m.p).2, pc := 1 })
      else { m with p := (popX K X m.p).2 }) := by unfold mkX; rw [if_pos h]
    rw [e]
    have c0 := pop_any hK is hm.p hk.wf (hk.p0 h) hT
    refine mk_call is hm (.inl ⟨h, rfl⟩) ?_
    by_cases hd : (popX K X m.p).2.pc = 3
    · rw [if_pos hd]
      rw [decide_eq_true hd] at c0
      exact take_done hm c0
    · rw [if_neg hd]
      rw [decide_eq_false hd] at c0
      exact take_go hm c0
  · obtain ⟨s, hs, he⟩ := hk.some (by omega) (by omega)
    have es : m.slot = s := by unfold Mk.slot; rw [he]; rfl
    have e : mkX K X m = (X, { m with gen := genW (X.getD (K.hd s) 0), pc := 2 }) := by unfold mkX; rw [if_neg (by omega), if_pos h, es]
    rw [e]
    exact mk_gen is hm h hT (K.hd_lt hs) he (fun w => header_at hK hs rfl w)
  · obtain ⟨s, hs, he⟩ := hk.some (by omega) (by omega)
    have es : m.slot = s := by unfold Mk.slot; rw [he]; rfl
    have e : mkX K X m = (X.set (K.bd s m.nx) (m.body.getD m.nx 0), { m with nx := m.nx + 1, pc := if m.nx + 1 = m.body.length then 3 else m.pc }) := by unfold mkX; rw [if_neg (by omega), if_neg (by omega), if_pos h, es, h]
    rw [e]
    have hn := hk.nx (by omega)
    have hl := hk.len
    have h8 := hK.b8
    exact mk_call is hm (.inr (.inl ⟨h, rfl⟩)) (storeWord_as is hm hT (K.bd_lt hs hn) he (by omega) (by omega) hb hbb rfl (hk.fits _) (fun w => body_at hK hs hn rfl rfl w))
  · obtain ⟨s, hs, he⟩ := hk.some (by omega) (by omega)
    have es : m.slot = s := by unfold Mk.slot; rw [he]; rfl
    have e : mkX K X m = (X.set (K.hd s) (madeW m.kind m.ar m.gen m.e), { m with sl := m.p.sl, pc := 4 }) := by unfold mkX; rw [if_neg (by omega), if_neg (by omega), if_neg (by omega), if_pos h, es]
    rw [e]
    have hr : Hr m.kind (bornN m.e) m.ar m.gen 0 := ⟨by rcases hk.kind with h | h <;> omega, Hh.bornN_lt _, hk.ar, hk.gen, by omega⟩
    have hu : Hh.usedK (m.kind : Nat) = true := by rcases hk.kind with h | h <;> rw [h] <;> rfl
    exact mk_call is hm (.inr (.inr ⟨h, rfl⟩)) (storeHeader_as is hm hT (K.hd_lt hs) he (Hh.wordOf_lt _ _ _ _ _ _ (by have := hr.k; omega) hr.m (Hh.bool_lt false) hr.a hr.n hr.s) (fun w hw => Hh.made_as _ _ _ _ hk.e hu _ true (fun w hw => Hh.pack_word false hr w hw) w hw) (fun w => header_at hK hs rfl w))

end Go.Proofs.YtjbjijkkmlehgaaDoor
/- Contracts of package arena's own small functions and of what makes its machines. -/
namespace Go.Proofs.YtjbjijkkmlehgaaDoor
open Go.RowKit
open Mm (IsMem MS touched Only IsWords)
open Hh (WT wordOf bornN okW Hr)

/-- Whether a slot may be made something of this kind and arity. -/
def mayB (a kind ar : Int) : Bool := (decide (kind = 1) && decide (0 ≤ ar) && decide (ar ≤ a)) || (decide (kind = 2) && decide (ar = 0))
set_option maxHeartbeats 1000000 in
theorem may_any (s a c d g k kind ar : Int) (w : World) :
    Calls Tryd.prog 44 #[.agg (cs s a c d g k), .int .i64 kind, .int .i64 ar] w fun e w' => e = .returned (.bool (mayB a kind ar)) ∧ Below w.heap.size w w' := by
  have bel := alloc_below w (.cells #[.int .i64 s, .int .i64 a, .int .i64 c, .int .i64 d, .int .i64 g, .int .i64 k] 23)
  by_cases h1 : kind = 1
  · subst h1
    by_cases h2 : 0 ≤ ar
    · have e : mayB a 1 ar = decide (ar ≤ a) := by simp [mayB, h2]
      rw [e]
      go_enter Tryd.func44, Tryd.ntmps44
      go_wp2
      go_ret
      exact ⟨rfl, bel⟩
    · have e : mayB a 1 ar = false := by simp [mayB, h2]
      rw [e]
      go_enter Tryd.func44, Tryd.ntmps44
      go_wp2
      go_ret
      exact ⟨rfl, bel⟩
  · have n1 : (kind == 1) = false := by simpa using h1
    by_cases h2 : kind = 2
    · subst h2
      have e : mayB a 2 ar = (ar == 0) := by by_cases h : ar = 0 <;> simp [mayB, h]
      rw [e]
      go_enter Tryd.func44, Tryd.ntmps44
      go_wp2
      go_ret
      exact ⟨rfl, bel⟩
    · have n2 : (kind == 2) = false := by simpa using h2
      have e : mayB a kind ar = false := by simp [mayB, h1, h2]
      rw [e]
      go_enter Tryd.func44, Tryd.ntmps44
      go_wp2
      go_ret
      exact ⟨rfl, bel⟩

set_option maxHeartbeats 2000000 in
theorem bodySize_yes {K : Cf} (hK : K.Ok) (w : World) :
    Calls Tryd.prog 45 #[.agg K.cs] w fun e w' => e = .returned (.int .i64 (K.B : Nat)) ∧ Below w.heap.size w w' := by
  have h1 := hK.s1
  have h8 := hK.b8
  have c1 : ∀ n : Nat, n < K.B → ∀ w, Calls Tryd.prog 59 #[.agg K.cs, .int .i64 0, .int .i64 (n : Nat)] w fun e w' => e = .returned (.int .i64 (K.bd 0 n : Nat)) ∧ Below w.heap.size w w' := fun n hn => body_at hK (s := 0) (by omega) hn rfl rfl
  have c2 : ∀ w, Calls Tryd.prog 59 #[.agg K.cs, .int .i64 0, .int .i64 (K.B : Nat)] w fun e w' => e = .returned (.int .i64 (-1)) ∧ Below w.heap.size w w' := body_no2 (s := (K.S : Int)) 0 (K.B : Nat) (by rw [hK.r, Bool.true_and]; exact be_iff.2 (by omega)) (by
    have h := hK.b
    cases hb : be (K.B : Nat) (bsI K.a) with
    | false => rfl
    | true => have := be_iff.1 hb; omega)
  have bel := alloc_below w (.cells #[.int .i64 (K.S : Nat), .int .i64 K.a, .int .i64 (K.C : Nat), .int .i64 (K.D : Nat), .int .i64 K.g, .int .i64 K.k] 23)
  have hh := cfg_new w K.S K.a K.C K.D K.g K.k
  generalize hBe : K.B = B at *
  clear hK hBe h1
  go_enter Tryd.func45, Tryd.ntmps45
  go_upto_region 1 with fail
  generalize w.alloc (.cells #[.int .i64 (K.S : Nat), .int .i64 K.a, .int .i64 (K.C : Nat), .int .i64 (K.D : Nat), .int .i64 K.g, .int .i64 K.k] 23) = w0 at *
  go_wp2
  go_loopw [3] (fun i wr => ∃ n : Nat, n ≤ B ∧ i = .int .i64 n ∧ IsCfg wr w.heap.size K.S K.a K.C K.D K.g K.k ∧ Below w.heap.size w wr) (fun i _ => B - (intOf i).toNat)
  case atStart => exact ⟨0, Nat.zero_le _, rfl, hh, bel⟩
  case round =>
    clear hh bel
    obtain ⟨n, hn, rfl, hh, bel⟩ := hrel
    obtain ⟨l0, l1, l2, l3, l4, l5⟩ := hh.cells
    by_cases hb : n < B
    · have d1 := c1 n hb
      clear c1 c2
      have hz : (0 : Int) ≤ (K.bd 0 n : Nat) := by omega
      generalize ((K.bd 0 n : Nat) : Int) = z at *
      go_wp2_with (go_at_call 59; refine (d1 _).mono ?_; rintro e w1 ⟨rfl, b⟩; replace bel := seq_below bel b; replace hh := hh.below b)
      go_roundw
      case rel => exact ⟨n + 1, by omega, by go_num, hh, bel⟩
      case measure => simp [intOf]; omega
    · obtain rfl : n = B := by omega
      clear c1
      go_wp2_with (go_at_call 59; refine (c2 _).mono ?_; rintro e w1 ⟨rfl, b⟩; replace bel := seq_below bel b)
      go_ret
      exact ⟨rfl, bel⟩

/-- Words that a slice has, if it has any. -/
def SrW (w : World) (ad : Option Addr) (Y : List Nat) : Prop := ∀ i, i < Y.length → ∃ b off, ad = some ⟨b, off, none⟩ ∧ b < w.heap.size ∧ w.cell? ⟨b, off + i, none⟩ = some (.int .u64 (Y.getD i 0 : Nat))
theorem SrW.below {w w' : World} {ad : Option Addr} {Y : List Nat} (h : SrW w ad Y) (k : Below w.heap.size w w') : SrW w' ad Y := fun i hi => by
  obtain ⟨b, off, e, hb, hc⟩ := h i hi
  exact ⟨b, off, e, Nat.lt_of_lt_of_le hb k.size, (k.cell (p := ⟨b, off + i, none⟩) hb).trans hc⟩
/-- A body: as many of these words as it has, and 0 where they are fewer. -/
def fillW (B : Nat) (Y : List Nat) : List Nat := (Y ++ List.replicate B 0).take B
theorem fillW_len (B : Nat) (Y : List Nat) : (fillW B Y).length = B := by simp [fillW]
theorem splice_fill (B : Nat) (Y : List Nat) : (splice (List.replicate B (Value.int .u64 0)) 0 (Mm.wordsOf (Y.take B)).toList).toArray = Mm.wordsOf (fillW B Y) := by
  unfold splice fillW Mm.wordsOf
  apply Array.ext'
  have e : B - min B Y.length = min (B - Y.length) B := by omega
  simp [List.take_append, List.take_replicate, List.drop_replicate, e]

set_option maxHeartbeats 2000000 in
theorem filled_any {K : Cf} (hK : K.Ok) {w : World} {ad : Option Addr} {n cap : Nat} {Y : List Nat} (hY : SrW w ad Y) (hn : Y.length = n) :
    Calls Tryd.prog 46 #[.agg K.cs, .slice ad n cap] w fun e w' => ∃ R, e = .returned (.slice (some ⟨R, 0, none⟩) K.B K.B) ∧ IsWords w' R (fillW K.B Y) ∧ w.heap.size ≤ R ∧ Below w.heap.size w w' := by
  obtain ⟨i0, hi, hz0, hz1, hz2⟩ := info_parts Mm.Tryd.info35
  have hsz : (Tryd.prog.info? 35).map (·.size) = some 1 := by rw [hi]; simp [hz1]
  have c1 := bodySize_yes hK
  have h8 := hK.b8
  have bel := alloc_below w (.cells #[.int .i64 (K.S : Nat), .int .i64 K.a, .int .i64 (K.C : Nat), .int .i64 (K.D : Nat), .int .i64 K.g, .int .i64 K.k] 23)
  have hh := cfg_new w K.S K.a K.C K.D K.g K.k
  replace hY := hY.below bel
  have hsp := splice_fill K.B Y
  have HY : Hid (∀ (j : Nat) v, (Mm.wordsOf (Y.take K.B))[j]? = some v → j < Y.length ∧ v = .int .u64 (Y.getD j 0 : Nat)) := fun j v hj => by
    have hlt : j < (Mm.wordsOf (Y.take K.B)).size := (Array.getElem?_eq_some_iff.1 hj).1
    simp only [Mm.wordsOf, List.size_toArray, List.length_map, List.length_take] at hlt
    refine ⟨by omega, ?_⟩
    simp only [Mm.wordsOf, List.getElem?_toArray, List.getElem?_map] at hj
    rw [List.getElem?_take, if_pos (by omega), List.getElem?_eq_getElem (by omega)] at hj
    simp at hj
    rw [← hj]
    simp [show j < Y.length by omega]
  have hcl : (Mm.wordsOf (Y.take K.B)).toList.length = Nat.min n K.B := by simp [Mm.wordsOf, hn, Nat.min_comm]
  generalize hBe : K.B = B at *
  clear hK hBe
  go_enter Tryd.func46, Tryd.ntmps46
  go_upto_region 1 with fail
  generalize w.alloc (.cells #[.int .i64 (K.S : Nat), .int .i64 K.a, .int .i64 (K.C : Nat), .int .i64 (K.D : Nat), .int .i64 K.g, .int .i64 K.k] 23) = w0 at *
  obtain ⟨l0, l1, l2, l3, l4, l5⟩ := hh.cells
  have HYs : Hid (SrW w0 ad Y) := hY
  clear hY
  go_wp2_with (first
    | (go_at_call 45; refine (c1 _).mono ?_; rintro e w1 ⟨rfl, b⟩; replace bel := seq_below bel b; replace HYs : Hid (SrW w1 ad Y) := SrW.below HYs.out b)
    | (at_make; refine wpList_make_full _ rfl _ _ 44 rfl w1.heap.size 35 i0 (.int .u64 0) 1 Tryd.underlying44 hi hz0 hz1 .i64 .i64 B B B rfl rfl rfl rfl ?c1 ?c2 (Nat.le_refl _) ?_))
  case c1 => rw [hz2]; omega
  case c2 => unfold maxLen; omega
  intro w2 hown hgrow
  have hr := Mm.made_words hown rfl
  have hb := Mm.of_grown hgrow
  have hs1 := bel.size
  have HR : Hid (IsWords w2 w1.heap.size (List.replicate B 0)) := hr
  have HB : Hid (Below w1.heap.size w1 w2) := hb
  have HB0 : Hid (Below w.heap.size w w2) := seq_below bel hb
  have HY2 : Hid (SrW w2 ad Y) := SrW.below HYs.out hb
  clear hown hgrow hr hb bel HYs l0 l1 l2 l3 l4 l5 hh
  generalize w1.heap.size = R at *
  go_wp2_with ((refine wpList_copy_splice rfl (.tmp 9) (.tmp 10) 44 44 rfl 35 Tryd.underlying44 hsz _ _ B B n cap rfl rfl R 0 (List.replicate B (Value.int .u64 0)) 35 ?d1 (Mm.wordsOf (Y.take B)).toList ?d2 ?d3 ?d4 ?d5 w.heap.size w HB0.out hs1 ?_))
  case d1 => exact HR.out.trans (by simp [Mm.wordsOf])
  case d2 => exact hcl
  case d3 =>
    intro hpos
    obtain ⟨b, off, rfl, hb, _⟩ := HY2.out 0 (by have : Nat.min n B ≤ n := Nat.min_le_left n B; omega)
    refine ⟨_, rfl, fun j v hj => ?_⟩
    obtain ⟨hj1, rfl⟩ := HY.out j v hj
    obtain ⟨b', off', e, _, hc⟩ := HY2.out j hj1
    simp only [Option.some.injEq, Addr.mk.injEq] at e
    obtain ⟨rfl, rfl, -⟩ := e
    rw [Addr.add_lit]
    exact hc
  case d4 => rw [hcl, List.length_replicate, Nat.zero_add]; exact Nat.min_le_right n B
  case d5 => exact Mm.words_one _
  · intro w3 hrow hb3
    have HR2 : Hid (IsWords w3 R (fillW B Y)) := hrow.out
    clear hrow HR hsp HY HY2
    go_wp2
    go_ret
    exact ⟨_, rfl, HR2.out, hs1, hb3⟩

theorem getN_fill {B : Nat} {Y : List Nat} (h : ∀ i, Y.getD i 0 < 18446744073709551616) (i : Nat) : (fillW B Y).getD i 0 < 18446744073709551616 := by
  unfold fillW
  rw [List.getD_eq_getElem?_getD, List.getElem?_take]
  split
  · rw [List.getElem?_append]
    split
    · have := h i
      rwa [List.getD_eq_getElem?_getD] at this
    · rw [List.getElem?_replicate]
      split <;> simp
  · simp

/-- What of a made block is told, without its cells. -/
structure NewBlk (w w' : World) (P : Nat) (c : Array Value) (t : TypeId) : Prop where
  blk : w'.heap[P]? = some (.cells c t (0, 0))
  new : w.heap.size ≤ P
  bel : Below w.heap.size w w'

set_option maxHeartbeats 1000000 in
theorem newFree_no {s a c d g k : Int} (i : Int) (hr : (rightB s a c d g k && be i s) = false) (w : World) :
    Calls Tryd.prog 21 #[.agg (cs s a c d g k), .int .i64 i] w fun e w' => e = .returned (.pointer none) ∧ Below w.heap.size w w' := by
  have c1 := header_no i hr
  have bel := alloc_below w (.cells #[.int .i64 s, .int .i64 a, .int .i64 c, .int .i64 d, .int .i64 g, .int .i64 k] 23)
  have hh := cfg_new w s a c d g k
  clear hr
  go_enter Tryd.func21, Tryd.ntmps21
  go_wp2_with (go_at_call 39; refine (c1 _).mono ?_; rintro e w1 ⟨rfl, b⟩; replace bel := seq_below bel b)
  go_ret
  exact ⟨rfl, bel⟩

set_option maxHeartbeats 4000000 in
theorem newFree_yes {K : Cf} (hK : K.Ok) {s : Nat} (hs : s < K.S) (w : World) :
    Calls Tryd.prog 21 #[.agg K.cs, .int .i64 (s : Nat)] w fun e w' => ∃ P c, e = .returned (.pointer (some ⟨P, 0, none⟩)) ∧ NewBlk w w' P c 72 ∧ FrAt c K ⟨false, false, ⟨s, 0, 0⟩, 0, 0⟩ := by
  have c1 := fun w => header_at hK hs rfl w
  have c2 := newPush_yes hK s hs
  have hz : (0 : Int) ≤ (K.hd s : Nat) := by omega
  have Hfr : Hid (FrAt #[.bool false, .bool false, .int .i64 (K.hd s : Nat), .int .i64 K.g, .int .i64 (K.S : Nat), .int .i64 K.a, .int .i64 (K.C : Nat), .int .i64 (K.D : Nat), .int .i64 K.g, .int .i64 K.k, .int .i64 (s : Nat), .int .i64 0, .int .u64 0, .int .i64 0, .int .u64 0] K ⟨false, false, ⟨s, 0, 0⟩, 0, 0⟩) := ⟨rfl, rfl, rfl, rfl, ⟨rfl, rfl, rfl, rfl, rfl, rfl, rfl, rfl, rfl⟩, rfl, rfl⟩
  generalize ((K.hd s : Nat) : Int) = L at *
  have bel := alloc_below w (.cells #[.int .i64 (K.S : Nat), .int .i64 K.a, .int .i64 (K.C : Nat), .int .i64 (K.D : Nat), .int .i64 K.g, .int .i64 K.k] 23)
  have hh := cfg_new w K.S K.a K.C K.D K.g K.k
  unfold Cf.cs at *
  go_enter Tryd.func21, Tryd.ntmps21
  go_upto_region 1 with fail
  generalize w.alloc (.cells #[.int .i64 (K.S : Nat), .int .i64 K.a, .int .i64 (K.C : Nat), .int .i64 (K.D : Nat), .int .i64 K.g, .int .i64 K.k] 23) = w0 at *
  obtain ⟨l0, l1, l2, l3, l4, l5⟩ := hh.cells
  go_upto_region 4 with (go_at_call 39; refine (c1 _).mono ?_; rintro e w1 ⟨rfl, b⟩; replace bel := seq_below bel b; replace hh := hh.below b; clear l0 l1 l2 l3 l4 l5)
  clear c1 b
  replace hh := hh.below (Below.refl w1.heap.size w1).drew
  replace bel := bel.drew
  obtain ⟨l0, l1, l2, l3, l4, l5⟩ := hh.cells
  go_region_with (first
    | (go_at_call 53; with_reducible refine (c2 _).mono ?_; rintro e w2 ⟨Q, rfl, hq, hQ, b⟩; replace bel := seq_below bel b; replace hh := hh.below b; clear l0 l1 l2 l3 l4 l5; obtain ⟨l0, l1, l2, l3, l4, l5⟩ := hh.cells; obtain ⟨m0, m1, m2, m3, m4, m5, m6, m7, m8⟩ := hq.cells))
  all_goals
    go_wp2
    go_ret
    exact ⟨_, _, rfl, ⟨new_obj _ _, bel.size, bel.alloc bel.size _⟩, Hfr.out⟩
end Go.Proofs.YtjbjijkkmlehgaaDoor
/- Contracts of package arena's NewMake. -/
namespace Go.Proofs.YtjbjijkkmlehgaaDoor
open Go.RowKit
open Mm (IsMem MS touched Only IsWords)
open Hh (WT wordOf bornN okW Hr)

set_option maxHeartbeats 1000000 in
theorem newMake_wrong {s a c d g k : Int} (hr : rightB s a c d g k = false) (kind ar ep : Int) (v : Value) (w : World) :
    Calls Tryd.prog 19 #[.agg (cs s a c d g k), .int .i64 kind, .int .i64 ar, .int .u64 ep, v] w fun e w' => e = .returned (.pointer none) ∧ Below w.heap.size w w' := by
  have c1 := right_any s a c d g k
  rw [hr] at c1
  clear hr
  have bel := alloc_below w (.cells #[.int .i64 s, .int .i64 a, .int .i64 c, .int .i64 d, .int .i64 g, .int .i64 k] 23)
  have hh := cfg_new w s a c d g k
  go_enter Tryd.func19, Tryd.ntmps19
  go_upto_region 1 with fail
  generalize w.alloc (.cells #[.int .i64 s, .int .i64 a, .int .i64 c, .int .i64 d, .int .i64 g, .int .i64 k] 23) = w0 at *
  obtain ⟨l0, l1, l2, l3, l4, l5⟩ := hh.cells
  go_wp2_with (go_at_call 34; refine (c1 _).mono ?_; rintro e w1 ⟨rfl, b⟩; replace bel := seq_below bel b)
  go_ret
  exact ⟨rfl, bel⟩

set_option maxHeartbeats 1000000 in
theorem newMake_not {s a c d g k : Int} (hr : rightB s a c d g k = true) (kind ar ep : Int) (hm : mayB a kind ar = false) (v : Value) (w : World) :
    Calls Tryd.prog 19 #[.agg (cs s a c d g k), .int .i64 kind, .int .i64 ar, .int .u64 ep, v] w fun e w' => e = .returned (.pointer none) ∧ Below w.heap.size w w' := by
  have c1 := right_any s a c d g k
  rw [hr] at c1
  have c2 := may_any s a c d g k kind ar
  rw [hm] at c2
  clear hr hm
  have bel := alloc_below w (.cells #[.int .i64 s, .int .i64 a, .int .i64 c, .int .i64 d, .int .i64 g, .int .i64 k] 23)
  have hh := cfg_new w s a c d g k
  go_enter Tryd.func19, Tryd.ntmps19
  go_upto_region 1 with fail
  generalize w.alloc (.cells #[.int .i64 s, .int .i64 a, .int .i64 c, .int .i64 d, .int .i64 g, .int .i64 k] 23) = w0 at *
  obtain ⟨l0, l1, l2, l3, l4, l5⟩ := hh.cells
  go_wp2_with (first
    | (go_at_call 34; refine (c1 _).mono ?_; rintro e w1 ⟨rfl, b⟩; replace bel := seq_below bel b; replace hh := hh.below b; clear l0 l1 l2 l3 l4 l5; obtain ⟨l0, l1, l2, l3, l4, l5⟩ := hh.cells)
    | (go_at_call 44; refine (c2 _).mono ?_; rintro e w1 ⟨rfl, b⟩; replace bel := seq_below bel b))
  go_ret
  exact ⟨rfl, bel⟩

set_option maxHeartbeats 1000000 in
theorem newMake_long {K : Cf} (hK : K.Ok) (kind ar ep : Int) (hm : mayB K.a kind ar = true) (ad : Option Addr) (n cap : Nat) (hn : K.B < n) (w : World) :
    Calls Tryd.prog 19 #[.agg K.cs, .int .i64 kind, .int .i64 ar, .int .u64 ep, .slice ad n cap] w fun e w' => e = .returned (.pointer none) ∧ Below w.heap.size w w' := by
  have c1 := right_any K.S K.a K.C K.D K.g K.k
  rw [hK.r] at c1
  have c2 := may_any K.S K.a K.C K.D K.g K.k kind ar
  rw [hm] at c2
  have c3 := bodySize_yes hK
  have hlt : (K.B : Int) < (n : Int) := by omega
  clear hm hn
  have bel := alloc_below w (.cells #[.int .i64 (K.S : Nat), .int .i64 K.a, .int .i64 (K.C : Nat), .int .i64 (K.D : Nat), .int .i64 K.g, .int .i64 K.k] 23)
  have hh := cfg_new w K.S K.a K.C K.D K.g K.k
  go_enter Tryd.func19, Tryd.ntmps19
  go_upto_region 1 with fail
  generalize w.alloc (.cells #[.int .i64 (K.S : Nat), .int .i64 K.a, .int .i64 (K.C : Nat), .int .i64 (K.D : Nat), .int .i64 K.g, .int .i64 K.k] 23) = w0 at *
  obtain ⟨l0, l1, l2, l3, l4, l5⟩ := hh.cells
  go_wp2_with (first
    | (go_at_call 34; refine (c1 _).mono ?_; rintro e w1 ⟨rfl, b⟩; replace bel := seq_below bel b; replace hh := hh.below b; clear l0 l1 l2 l3 l4 l5; obtain ⟨l0, l1, l2, l3, l4, l5⟩ := hh.cells)
    | (go_at_call 44; refine (c2 _).mono ?_; rintro e w1 ⟨rfl, b⟩; replace bel := seq_below bel b; replace hh := hh.below b; clear l0 l1 l2 l3 l4 l5; obtain ⟨l0, l1, l2, l3, l4, l5⟩ := hh.cells)
    | (go_at_call 45; refine (c3 _).mono ?_; rintro e w1 ⟨rfl, b⟩; replace bel := seq_below bel b))
  go_ret
  exact ⟨rfl, bel⟩

/-- A Make as it is made. -/
def mk0 (kind ar ep R B : Nat) (Y : List Nat) : Mk := ⟨-1, false, kind, ar, ep, R, fillW B Y, ⟨-1, false, 0, 0, 0⟩, 0, 0, 0⟩

set_option maxRecDepth 100000 in
set_option maxHeartbeats 4000000 in
theorem newMake_yes {K : Cf} (hK : K.Ok) (kind ar ep : Nat) (hm : mayB K.a kind ar = true) {w : World} {ad : Option Addr} {n cap : Nat} {Y : List Nat} (hY : SrW w ad Y) (hl : Y.length = n) (hn : n ≤ K.B) :
    Calls Tryd.prog 19 #[.agg K.cs, .int .i64 (kind : Nat), .int .i64 (ar : Nat), .int .u64 (ep : Nat), .slice ad n cap] w fun e w' => ∃ P R c, e = .returned (.pointer (some ⟨P, 0, none⟩)) ∧ NewBlk w w' P c 60 ∧ MkAt c K (mk0 kind ar ep R K.B Y) ∧ IsWords w' R (fillW K.B Y) ∧ w.heap.size ≤ R ∧ R ≠ P := by
  have c1 := right_any K.S K.a K.C K.D K.g K.k
  rw [hK.r] at c1
  have c2 := may_any K.S K.a K.C K.D K.g K.k kind ar
  rw [hm] at c2
  have c3 := bodySize_yes hK
  have c4 : ∀ wr, SrW wr ad Y → Calls Tryd.prog 46 #[.agg K.cs, .slice ad n cap] wr fun e w' => ∃ R, e = .returned (.slice (some ⟨R, 0, none⟩) K.B K.B) ∧ IsWords w' R (fillW K.B Y) ∧ wr.heap.size ≤ R ∧ Below wr.heap.size wr w' := fun wr h => filled_any hK h hl
  have c5 := newPop_yes hK.r
  have hlt : ¬ (K.B : Int) < (n : Int) := by omega
  have HM : Hid (∀ R, MkAt #[.int .i64 (-1), .bool false, .int .i64 (K.S : Nat), .int .i64 K.a, .int .i64 (K.C : Nat), .int .i64 (K.D : Nat), .int .i64 K.g, .int .i64 K.k, .int .i64 (kind : Nat), .int .i64 (ar : Nat), .int .u64 (ep : Nat), .slice (some ⟨R, 0, none⟩) K.B K.B, .int .i64 (-1), .bool false, .int .i64 (K.S : Nat), .int .i64 K.a, .int .i64 (K.C : Nat), .int .i64 (K.D : Nat), .int .i64 K.g, .int .i64 K.k, .int .i64 0, .int .u64 0, .int .i64 0, .int .i64 0, .int .i64 0, .int .i64 0] K (mk0 kind ar ep R K.B Y)) := fun R => ⟨rfl, rfl, rfl, rfl, rfl, rfl, rfl, rfl, rfl, rfl, rfl, by show _ = some (Value.slice _ (fillW K.B Y).length (fillW K.B Y).length); rw [fillW_len]; rfl, ⟨rfl, rfl, rfl, rfl, rfl, rfl, rfl, rfl, rfl, rfl, rfl⟩, rfl, rfl, rfl⟩
  clear hm hn hl
  have bel := alloc_below w (.cells #[.int .i64 (K.S : Nat), .int .i64 K.a, .int .i64 (K.C : Nat), .int .i64 (K.D : Nat), .int .i64 K.g, .int .i64 K.k] 23)
  have hh := cfg_new w K.S K.a K.C K.D K.g K.k
  have HY : Hid (SrW _ ad Y) := hY.below bel
  clear hY
  go_enter Tryd.func19, Tryd.ntmps19
  go_upto_region 1 with fail
  generalize w.alloc (.cells #[.int .i64 (K.S : Nat), .int .i64 K.a, .int .i64 (K.C : Nat), .int .i64 (K.D : Nat), .int .i64 K.g, .int .i64 K.k] 23) = w0 at *
  obtain ⟨l0, l1, l2, l3, l4, l5⟩ := hh.cells
  go_upto_region 3 with (first
    | (go_at_call 34; refine (c1 _).mono ?_; rintro e w1 ⟨rfl, b⟩; replace bel := seq_below bel b; replace hh := hh.below b; replace HY : Hid (SrW _ ad Y) := HY.out.below b; clear l0 l1 l2 l3 l4 l5; obtain ⟨l0, l1, l2, l3, l4, l5⟩ := hh.cells)
    | (go_at_call 44; refine (c2 _).mono ?_; rintro e w1 ⟨rfl, b⟩; replace bel := seq_below bel b; replace hh := hh.below b; replace HY : Hid (SrW _ ad Y) := HY.out.below b; clear l0 l1 l2 l3 l4 l5; obtain ⟨l0, l1, l2, l3, l4, l5⟩ := hh.cells)
    | (go_at_call 45; refine (c3 _).mono ?_; rintro e w1 ⟨rfl, b⟩; replace bel := seq_below bel b; replace hh := hh.below b; replace HY : Hid (SrW _ ad Y) := HY.out.below b; clear l0 l1 l2 l3 l4 l5))
  clear c1 c2 c3 b
  replace hh := hh.below (Below.refl _ _).drew
  replace HY : Hid (SrW _ ad Y) := HY.out.below (Below.refl _ _).drew
  replace bel := bel.drew
  have hS0 := hh.cells
  refine wp_region_held_drew (S := fun wr => wr.cell? ⟨w.heap.size, 0, none⟩ = some (.int .i64 (K.S : Nat)) ∧ wr.cell? ⟨w.heap.size, 1, none⟩ = some (.int .i64 K.a) ∧ wr.cell? ⟨w.heap.size, 2, none⟩ = some (.int .i64 (K.C : Nat)) ∧ wr.cell? ⟨w.heap.size, 3, none⟩ = some (.int .i64 (K.D : Nat)) ∧ wr.cell? ⟨w.heap.size, 4, none⟩ = some (.int .i64 K.g) ∧ wr.cell? ⟨w.heap.size, 5, none⟩ = some (.int .i64 K.k)) (by kernel_rfl) hS0 (fun hS1 => ?_)
  clear hS0
  refine wpAnyH_take (i := 0) (oi := { dst := some 28, op := Go.Op.load 23 (Go.Operand.tmp 5), type := 23, pos := "arena.go:88", after := #[], guard := none }) (v := .agg #[.int .i64 (K.S : Nat), .int .i64 K.a, .int .i64 (K.C : Nat), .int .i64 (K.D : Nat), .int .i64 K.g, .int .i64 K.k]) rfl (by kernel_rfl) (by kernel_rfl) (by kernel_rfl) (fun _ _ _ h => h) (Or.inl ⟨by rfl, fun w hSw => by (try dsimp only at hSw); go_simp⟩) hS1 ?_
  simp only [Act.put, List.setIfInBounds_toArray, List.set_cons_zero, List.set_cons_succ]
  refine wpAnyH_take (i := 1) (oi := { dst := some 29, op := Go.Op.move (Go.Operand.tmp 1), type := 3, pos := "arena.go:88", after := #[], guard := none }) (v := .int .i64 (kind : Nat)) rfl (by kernel_rfl) (by kernel_rfl) (by kernel_rfl) (fun _ _ _ h => h) (Or.inl ⟨by rfl, fun w hSw => by (try dsimp only at hSw); go_simp⟩) hS1 ?_
  simp only [Act.put, List.setIfInBounds_toArray, List.set_cons_zero, List.set_cons_succ]
  refine wpAnyH_take (i := 2) (oi := { dst := some 30, op := Go.Op.move (Go.Operand.tmp 2), type := 3, pos := "arena.go:88", after := #[], guard := none }) (v := .int .i64 (ar : Nat)) rfl (by kernel_rfl) (by kernel_rfl) (by kernel_rfl) (fun _ _ _ h => h) (Or.inl ⟨by rfl, fun w hSw => by (try dsimp only at hSw); go_simp⟩) hS1 ?_
  simp only [Act.put, List.setIfInBounds_toArray, List.set_cons_zero, List.set_cons_succ]
  refine wpAnyH_take (i := 3) (oi := { dst := some 31, op := Go.Op.move (Go.Operand.tmp 3), type := 35, pos := "arena.go:88", after := #[], guard := none }) (v := .int .u64 (ep : Nat)) rfl (by kernel_rfl) (by kernel_rfl) (by kernel_rfl) (fun _ _ _ h => h) (Or.inl ⟨by rfl, fun w hSw => by (try dsimp only at hSw); go_simp⟩) hS1 ?_
  simp only [Act.put, List.setIfInBounds_toArray, List.set_cons_zero, List.set_cons_succ]
  refine wpAnyH_take (i := 4) (oi := { dst := some 32, op := Go.Op.load 23 (Go.Operand.tmp 5), type := 23, pos := "arena.go:88", after := #[], guard := none }) (v := .agg #[.int .i64 (K.S : Nat), .int .i64 K.a, .int .i64 (K.C : Nat), .int .i64 (K.D : Nat), .int .i64 K.g, .int .i64 K.k]) rfl (by kernel_rfl) (by kernel_rfl) (by kernel_rfl) (fun _ _ _ h => h) (Or.inl ⟨by rfl, fun w hSw => by (try dsimp only at hSw); go_simp⟩) hS1 ?_
  simp only [Act.put, List.setIfInBounds_toArray, List.set_cons_zero, List.set_cons_succ]
  refine wpAnyH_take (i := 5) (oi := { dst := some 33, op := Go.Op.move (Go.Operand.tmp 4), type := 44, pos := "arena.go:88", after := #[], guard := none }) (v := .slice ad n cap) rfl (by kernel_rfl) (by kernel_rfl) (by kernel_rfl) (fun _ _ _ h => h) (Or.inl ⟨by rfl, fun w hSw => by (try dsimp only at hSw); go_simp⟩) hS1 ?_
  simp only [Act.put, List.setIfInBounds_toArray, List.set_cons_zero, List.set_cons_succ]
  refine wpAnyH_take (i := 7) (oi := { dst := some 35, op := Go.Op.load 23 (Go.Operand.tmp 5), type := 23, pos := "arena.go:88", after := #[], guard := none }) (v := .agg #[.int .i64 (K.S : Nat), .int .i64 K.a, .int .i64 (K.C : Nat), .int .i64 (K.D : Nat), .int .i64 K.g, .int .i64 K.k]) rfl (by kernel_rfl) (by kernel_rfl) (by kernel_rfl) (fun _ _ _ h => h) (Or.inl ⟨by rfl, fun w hSw => by (try dsimp only at hSw); go_simp⟩) hS1 ?_
  simp only [Act.put, List.setIfInBounds_toArray, List.set_cons_zero, List.set_cons_succ]
  refine wpAnyH_ready (rs := [6]) (by kernel_rfl) (by simp) (AllReadyH.cons (o := { dst := some 34, op := Go.Op.call { callee := Go.Callee.value (Go.Operand.func 46), args := #[Go.Operand.tmp 32, Go.Operand.tmp 33], argTypes := #[23, 44] }, type := 44, pos := "arena.go:88", after := #[{ on := 4, ground := Go.Ground.data }, { on := 5, ground := Go.Ground.data }], guard := none }) rfl (fun K1 hK => ?_) AllReadyH.nil)
  go_simp
  go_at_call 46
  with_reducible refine (c4 _ HY.out).mono ?_
  rintro e w4 ⟨R, rfl, hR, hRl, b⟩
  (try simp only [])
  replace hh := hh.below b
  have hRs : w.heap.size ≤ R := by have := bel.size; omega
  replace bel := seq_below bel b
  have HR : Hid (IsWords w4 R (fillW K.B Y)) := hR
  have hRlt : R < w4.heap.size := lt_of_block (show w4.heap[R]? = _ from hR)
  refine hK.out _ _ hh.cells (fun hS1 => ?_)
  (try simp only [Act.put, List.setIfInBounds_toArray, List.set_cons_zero, List.set_cons_succ])
  clear hK hR
  refine wpAnyH_ready (rs := [8]) (by kernel_rfl) (by simp) (AllReadyH.cons (o := { dst := some 36, op := Go.Op.call { callee := Go.Callee.value (Go.Operand.func 47), args := #[Go.Operand.tmp 35], argTypes := #[23] }, type := 95, pos := "arena.go:88", after := #[{ on := 7, ground := Go.Ground.data }, { on := 6, ground := Go.Ground.chain }], guard := none }) rfl (fun K1 hK => ?_) AllReadyH.nil)
  go_simp
  go_at_call 47
  with_reducible refine (c5 _).mono ?_
  rintro e w5 ⟨Q, rfl, hq, hQ, b⟩
  (try simp only [])
  replace hh := hh.below b
  replace bel := seq_below bel b
  replace HR : Hid (IsWords w5 R (fillW K.B Y)) := words_below HR.out b
  have hR5 : R < w5.heap.size := Nat.lt_of_lt_of_le hRlt b.size
  obtain ⟨m0, m1, m2, m3, m4, m5, m6, m7, m8, m9, m10⟩ := hq.cells
  refine hK.out _ _ hh.cells (fun hS1 => ?_)
  (try simp only [Act.put, List.setIfInBounds_toArray, List.set_cons_zero, List.set_cons_succ])
  clear hK
  refine wpAnyH_take (i := 9) (oi := { dst := some 37, op := Go.Op.nilCheck (Go.Operand.tmp 36), type := 0, pos := "arena.go:88", after := #[{ on := 8, ground := Go.Ground.data }], guard := none }) (v := .pointer (some ⟨Q, 0, none⟩)) rfl (by kernel_rfl) (by kernel_rfl) (by kernel_rfl) (fun _ _ _ h => h) (Or.inl ⟨by rfl, fun w hSw => by (try dsimp only at hSw); go_simp⟩) hS1 ?_
  simp only [Act.put, List.setIfInBounds_toArray, List.set_cons_zero, List.set_cons_succ]
  refine wpAnyH_ready (rs := [10]) (by kernel_rfl) (by simp) (AllReadyH.cons (o := { dst := some 38, op := Go.Op.load 58 (Go.Operand.tmp 37), type := 58, pos := "arena.go:88", after := #[{ on := 9, ground := Go.Ground.data }], guard := none }) rfl (fun K1 hK => ?_) AllReadyH.nil)
  go_simp
  refine hK.out _ _ hh.cells (fun hS1 => ?_)
  (try simp only [Act.put, List.setIfInBounds_toArray, List.set_cons_zero, List.set_cons_succ])
  clear hK m0 m1 m2 m3 m4 m5 m6 m7 m8 m9 m10
  refine wpAnyH_take (i := 11) (oi := { dst := some 39, op := Go.Op.build 60 #[(0, Go.Operand.const (Go.Value.int Go.IntKind.i64 (-1))), (2, Go.Operand.tmp 28), (3, Go.Operand.tmp 29), (4, Go.Operand.tmp 30), (5, Go.Operand.tmp 31), (6, Go.Operand.tmp 34), (7, Go.Operand.tmp 38)], type := 60, pos := "arena.go:88", after := #[{ on := 0, ground := Go.Ground.data }, { on := 1, ground := Go.Ground.data }, { on := 2, ground := Go.Ground.data }, { on := 3, ground := Go.Ground.data }, { on := 6, ground := Go.Ground.data }, { on := 10, ground := Go.Ground.data }], guard := none }) (v := .agg #[.int .i64 (-1), .bool false, .int .i64 (K.S : Nat), .int .i64 K.a, .int .i64 (K.C : Nat), .int .i64 (K.D : Nat), .int .i64 K.g, .int .i64 K.k, .int .i64 (kind : Nat), .int .i64 (ar : Nat), .int .u64 (ep : Nat), .slice (some ⟨R, 0, none⟩) K.B K.B, .int .i64 (-1), .bool false, .int .i64 (K.S : Nat), .int .i64 K.a, .int .i64 (K.C : Nat), .int .i64 (K.D : Nat), .int .i64 K.g, .int .i64 K.k, .int .i64 0, .int .u64 0, .int .i64 0, .int .i64 0, .int .i64 0, .int .i64 0]) rfl (by kernel_rfl) (by kernel_rfl) (by kernel_rfl) (fun _ _ _ h => h) (Or.inl ⟨by rfl, fun w hSw => by (try dsimp only at hSw); go_simp⟩) hS1 ?_
  simp only [Act.put, List.setIfInBounds_toArray, List.set_cons_zero, List.set_cons_succ]
  refine wpAnyH_ready (rs := [12]) (by kernel_rfl) (by simp) (AllReadyH.cons (o := { dst := some 40, op := Go.Op.box 60 (Go.Operand.tmp 39), type := 38, pos := "arena.go:88", after := #[{ on := 11, ground := Go.Ground.data }], guard := none }) rfl (fun K1 hK => ?_) AllReadyH.nil)
  go_simp
  have nb : Hid _ := new_obj w5 (.cells #[.int .i64 (-1), .bool false, .int .i64 (K.S : Nat), .int .i64 K.a, .int .i64 (K.C : Nat), .int .i64 (K.D : Nat), .int .i64 K.g, .int .i64 K.k, .int .i64 (kind : Nat), .int .i64 (ar : Nat), .int .u64 (ep : Nat), .slice (some ⟨R, 0, none⟩) K.B K.B, .int .i64 (-1), .bool false, .int .i64 (K.S : Nat), .int .i64 K.a, .int .i64 (K.C : Nat), .int .i64 (K.D : Nat), .int .i64 K.g, .int .i64 K.k, .int .i64 0, .int .u64 0, .int .i64 0, .int .i64 0, .int .i64 0, .int .i64 0] 60)
  have hhA := hh.below (alloc_below w5 (.cells #[.int .i64 (-1), .bool false, .int .i64 (K.S : Nat), .int .i64 K.a, .int .i64 (K.C : Nat), .int .i64 (K.D : Nat), .int .i64 K.g, .int .i64 K.k, .int .i64 (kind : Nat), .int .i64 (ar : Nat), .int .u64 (ep : Nat), .slice (some ⟨R, 0, none⟩) K.B K.B, .int .i64 (-1), .bool false, .int .i64 (K.S : Nat), .int .i64 K.a, .int .i64 (K.C : Nat), .int .i64 (K.D : Nat), .int .i64 K.g, .int .i64 K.k, .int .i64 0, .int .u64 0, .int .i64 0, .int .i64 0, .int .i64 0, .int .i64 0] 60))
  have belA := bel.alloc bel.size (.cells #[.int .i64 (-1), .bool false, .int .i64 (K.S : Nat), .int .i64 K.a, .int .i64 (K.C : Nat), .int .i64 (K.D : Nat), .int .i64 K.g, .int .i64 K.k, .int .i64 (kind : Nat), .int .i64 (ar : Nat), .int .u64 (ep : Nat), .slice (some ⟨R, 0, none⟩) K.B K.B, .int .i64 (-1), .bool false, .int .i64 (K.S : Nat), .int .i64 K.a, .int .i64 (K.C : Nat), .int .i64 (K.D : Nat), .int .i64 K.g, .int .i64 K.k, .int .i64 0, .int .u64 0, .int .i64 0, .int .i64 0, .int .i64 0, .int .i64 0] 60)
  have hRA : Hid _ := words_below HR.out (alloc_below w5 (.cells #[.int .i64 (-1), .bool false, .int .i64 (K.S : Nat), .int .i64 K.a, .int .i64 (K.C : Nat), .int .i64 (K.D : Nat), .int .i64 K.g, .int .i64 K.k, .int .i64 (kind : Nat), .int .i64 (ar : Nat), .int .u64 (ep : Nat), .slice (some ⟨R, 0, none⟩) K.B K.B, .int .i64 (-1), .bool false, .int .i64 (K.S : Nat), .int .i64 K.a, .int .i64 (K.C : Nat), .int .i64 (K.D : Nat), .int .i64 K.g, .int .i64 K.k, .int .i64 0, .int .u64 0, .int .i64 0, .int .i64 0, .int .i64 0, .int .i64 0] 60))
  have hs5 := bel.size
  have hRne : R ≠ w5.heap.size := by omega
  refine hK.out _ _ hhA.cells (fun hS1 => ?_)
  (try simp only [Act.put, List.setIfInBounds_toArray, List.set_cons_zero, List.set_cons_succ])
  clear hK hh bel HR
  generalize w5.alloc (.cells #[.int .i64 (-1), .bool false, .int .i64 (K.S : Nat), .int .i64 K.a, .int .i64 (K.C : Nat), .int .i64 (K.D : Nat), .int .i64 K.g, .int .i64 K.k, .int .i64 (kind : Nat), .int .i64 (ar : Nat), .int .u64 (ep : Nat), .slice (some ⟨R, 0, none⟩) K.B K.B, .int .i64 (-1), .bool false, .int .i64 (K.S : Nat), .int .i64 K.a, .int .i64 (K.C : Nat), .int .i64 (K.D : Nat), .int .i64 K.g, .int .i64 K.k, .int .i64 0, .int .u64 0, .int .i64 0, .int .i64 0, .int .i64 0, .int .i64 0] 60) = w6 at *
  generalize w5.heap.size = P at *
  refine wpAnyH_take (i := 13) (oi := { dst := some 10, op := Go.Op.assign (Go.Operand.tmp 40), type := 38, pos := "arena.go:88", after := #[{ on := 12, ground := Go.Ground.data }, { on := 8, ground := Go.Ground.chain }, { on := 0, ground := Go.Ground.phase }, { on := 1, ground := Go.Ground.phase }, { on := 2, ground := Go.Ground.phase }, { on := 3, ground := Go.Ground.phase }, { on := 4, ground := Go.Ground.phase }, { on := 5, ground := Go.Ground.phase }, { on := 6, ground := Go.Ground.phase }, { on := 7, ground := Go.Ground.phase }, { on := 8, ground := Go.Ground.phase }, { on := 9, ground := Go.Ground.phase }, { on := 10, ground := Go.Ground.phase }, { on := 11, ground := Go.Ground.phase }, { on := 12, ground := Go.Ground.phase }], guard := none }) (v := .pointer (some ⟨P, 0, none⟩)) rfl (by kernel_rfl) (by kernel_rfl) (by kernel_rfl) (fun _ _ _ h => h) (Or.inl ⟨by rfl, fun w hSw => by (try dsimp only at hSw); go_simp⟩) hS1 ?_
  simp only [Act.put, List.setIfInBounds_toArray, List.set_cons_zero, List.set_cons_succ]
  refine wpAnyH_done (by kernel_rfl) ?_ _
  clear hS1
  go_wp2
  go_ret
  exact ⟨P, R, _, rfl, ⟨nb.out, hs5, belA⟩, HM.out R, hRA.out, hRs, hRne⟩

end Go.Proofs.YtjbjijkkmlehgaaDoor
/- Machines of arena beside a law's own blocks: one step of each, and what keeps them fit. -/
namespace Go.Proofs.YtjbjijkkmlehgaaDoor
open Go.RowKit
open Mm (IsMem MS touched Only IsWords)
open Hh (WT wordOf bornN okW Hr)
open Tg (movedW)

theorem Cf.Ok.b3 {K : Cf} (h : K.Ok) : 3 ≤ K.B := by
  have hb := h.b
  unfold bsI at hb
  omega
theorem popX_wf {K : Cf} {X : List Nat} {p : PS} (h : PWf K p) (hX : ∀ i, X.getD i 0 < 18446744073709551616) : PWf K (popX K X p).2 := by
  unfold popX
  split
  · refine ⟨by show (if _ then 3 else 1) ≤ 3; split <;> omega, hX 3, ?_⟩
    show (if _ then 3 else 1) = 1 → _
    intro e hf
    rw [if_pos hf] at e
    omega
  split
  · exact ⟨by show 2 ≤ 3; omega, h.tp, by intro e; cases e⟩
  split
  · split
    · exact ⟨by show 3 ≤ 3; omega, h.tp, by intro e; cases e⟩
    · exact ⟨by show 0 ≤ 3; omega, h.tp, by intro e; cases e⟩
  · exact h
theorem popX_len (K : Cf) (X : List Nat) (p : PS) : (popX K X p).1.length = X.length := by
  unfold popX
  repeat' split
  all_goals simp only [List.length_set]
theorem pushX_len (K : Cf) (X : List Nat) (q : QS) : (pushX K X q).1.length = X.length := by
  unfold pushX
  repeat' split
  all_goals simp only [List.length_set]
theorem pushX_wf {K : Cf} {X : List Nat} {q : QS} (h : QWf K q) (hX : ∀ i, X.getD i 0 < 18446744073709551616) : QWf K (pushX K X q).2 := by
  unfold pushX
  split
  · exact ⟨by show 1 ≤ 3; omega, hX 3, h.sl⟩
  split
  · exact ⟨by show 2 ≤ 3; omega, h.tp, h.sl⟩
  split
  · split
    · exact ⟨by show 3 ≤ 3; omega, h.tp, h.sl⟩
    · exact ⟨by show 0 ≤ 3; omega, h.tp, h.sl⟩
  · exact h
theorem mkX_len (K : Cf) (X : List Nat) (m : Mk) : (mkX K X m).1.length = X.length := by
  unfold mkX
  repeat' split
  all_goals first | exact popX_len _ _ _ | simp only [List.length_set]
theorem frX_len (K : Cf) (X : List Nat) (f : Fr) : (frX K X f).1.length = X.length := by
  unfold frX
  split
  · rfl
  split
  · simp only [List.length_set]
  split
  · exact pushX_len _ _ _
  · rfl

/-- What a Make that is fit holds besides. -/
structure Mk.Fit (m : Mk) (K : Cf) : Prop where
  ok : m.Ok K
  tp : m.pc = 0 → m.p.pc = 2 → fst K.S m.p.tp ≠ -1
  em : m.pc = 0 → m.p.em = false
  sl : m.pc ≤ 3 → m.sl = -1 ∧ m.full = false
theorem mk0_fit {K : Cf} (hK : K.Ok) {kind ar ep R : Nat} {Y : List Nat} (hk : kind = 1 ∨ kind = 2) (ha : ar < 16) (he : ep < 18446744073709551616) (hY : ∀ i, Y.getD i 0 < 18446744073709551616) : (mk0 kind ar ep R K.B Y).Fit K :=
  ⟨⟨hk, ha, he, fillW_len _ _, fun i => getN_fill hY i, ⟨by show 0 ≤ 3; omega, by show 0 < 18446744073709551616; omega, fun h => by cases h⟩, by show 0 ≤ 4; omega, fun _ => by show 0 ≤ 2; omega, (fun h => by have : 1 ≤ 0 := h; omega), by show 0 < 4294967296; omega, fun _ => by show 0 < K.B; have := hK.b3; omega⟩, (fun _ h => by cases h), fun _ => rfl, fun _ => ⟨rfl, rfl⟩⟩
/-- What a Pop's step under way comes to. -/
theorem popX_more {K : Cf} {X : List Nat} {p : PS} (hpc : p.pc ≤ 2) (h1 : p.pc = 1 → fst K.S p.tp ≠ -1) (h2 : p.pc = 2 → fst K.S p.tp ≠ -1) (hem : p.em = false) :
    ((popX K X p).2.pc ≤ 2 ∧ (popX K X p).2.em = false ∧ (popX K X p).2.sl = p.sl ∧ ((popX K X p).2.pc = 2 → fst K.S (popX K X p).2.tp ≠ -1)) ∨
    ((popX K X p).2.pc = 3 ∧ (popX K X p).2.em = true ∧ (popX K X p).2.sl = p.sl) ∨
    ((popX K X p).2.pc = 3 ∧ (popX K X p).2.em = false ∧ ∃ s : Nat, s < K.S ∧ (popX K X p).2.sl = (s : Int)) := by
  rcases (show p.pc = 0 ∨ p.pc = 1 ∨ p.pc = 2 by omega) with h | h | h
  · have e : popX K X p = (X, ⟨p.sl, if fst K.S (X.getD 3 0) = -1 then true else p.em, if fst K.S (X.getD 3 0) = -1 then 3 else 1, X.getD 3 0, p.nx⟩) := by unfold popX; rw [if_pos h]
    rw [e]
    clear e
    generalize X.getD 3 0 = t
    by_cases hf : fst K.S t = -1
    · exact .inr (.inl (by simp [hf]))
    · exact .inl (by simp [hf, hem])
  · have e : popX K X p = (X, ⟨p.sl, p.em, 2, p.tp, nmd K.S (X.getD (K.lk (fst K.S p.tp).toNat) 0)⟩) := by unfold popX; rw [if_neg (by omega), if_pos h]
    rw [e]
    exact .inl ⟨Nat.le_refl _, hem, rfl, fun _ => h1 h⟩
  · by_cases hv : X.getD 3 0 = p.tp
    · have e : popX K X p = (X.set 3 (movedW p.tp p.nx), ⟨fst K.S p.tp, p.em, 3, p.tp, p.nx⟩) := by unfold popX; rw [if_neg (by omega), if_neg (by omega), if_pos h, if_pos hv]
      rw [e]
      refine .inr (.inr ⟨rfl, hem, ?_⟩)
      rcases fst_cases K.S p.tp with h0 | ⟨s, hs, h0, _⟩
      · exact absurd h0 (h2 h)
      · exact ⟨s, hs, h0⟩
    · have e : popX K X p = (X, ⟨p.sl, p.em, 0, p.tp, p.nx⟩) := by unfold popX; rw [if_neg (by omega), if_neg (by omega), if_pos h, if_neg hv]
      rw [e]
      exact .inl ⟨Nat.zero_le _, hem, rfl, fun h => by cases h⟩
theorem mkX_fit {K : Cf} {X : List Nat} {m : Mk} (h : m.Fit K) (h3 : m.pc ≤ 3) (hX : ∀ i, X.getD i 0 < 18446744073709551616) : (mkX K X m).2.Fit K := by
  have ok := h.ok
  rcases (show m.pc = 0 ∨ m.pc = 1 ∨ m.pc = 2 ∨ m.pc = 3 by omega) with e | e | e | e
  · have hwf := popX_wf (X := X) ok.wf hX
    have hn := ok.nx (by omega)
    have hs := h.sl (by omega)
    unfold mkX
    rw [if_pos e]
    rcases popX_more (X := X) (ok.p0 e) ok.wf.one (h.tp e) (h.em e) with ⟨a1, a2, a3, a4⟩ | ⟨a1, a2, a3⟩ | ⟨a1, a2, s, hs2, a3⟩
    · rw [if_neg (by omega)]
      exact ⟨⟨ok.kind, ok.ar, ok.e, ok.len, ok.fits, hwf, ok.pc, fun _ => a1, (fun h1 _ => by have : 1 ≤ m.pc := h1; omega), ok.gen, fun _ => hn⟩, fun _ => a4, fun _ => a2, fun _ => hs⟩
    · simp only [if_pos a1, if_pos a2]
      exact ⟨⟨ok.kind, ok.ar, ok.e, ok.len, ok.fits, hwf, Nat.le_refl _, (fun h => by cases h), (fun _ h1 => by have : 4 ≤ 3 := h1; omega), ok.gen, fun h1 => by have : 4 ≤ 2 := h1; omega⟩, (fun h => by cases h), (fun h => by cases h), fun h1 => by have : 4 ≤ 3 := h1; omega⟩
    · simp only [if_pos a1, a2, Bool.false_eq_true, if_false]
      exact ⟨⟨ok.kind, ok.ar, ok.e, ok.len, ok.fits, hwf, by show 1 ≤ 4; omega, (fun h => by cases h), (fun _ _ => ⟨s, hs2, a3⟩), ok.gen, fun _ => hn⟩, (fun h => by cases h), (fun h => by cases h), fun _ => hs⟩
  · have hn := ok.nx (by omega)
    have hs := h.sl (by omega)
    have hsm := ok.some (by omega) (by omega)
    unfold mkX
    rw [if_neg (by omega), if_pos e]
    exact ⟨⟨ok.kind, ok.ar, ok.e, ok.len, ok.fits, ok.wf, by show 2 ≤ 4; omega, (fun h => by cases h), (fun _ _ => hsm), genW_lt _, fun _ => hn⟩, (fun h => by cases h), (fun h => by cases h), fun _ => hs⟩
  · have hn := ok.nx (by omega)
    have hl := ok.len
    have hs := h.sl (by omega)
    have hsm := ok.some (by omega) (by omega)
    unfold mkX
    rw [if_neg (by omega), if_neg (by omega), if_pos e]
    by_cases hd : m.nx + 1 = m.body.length
    · rw [if_pos hd]
      exact ⟨⟨ok.kind, ok.ar, ok.e, ok.len, ok.fits, ok.wf, by show 3 ≤ 4; omega, (fun h => by cases h), (fun _ _ => hsm), ok.gen, fun h1 => by have : 3 ≤ 2 := h1; omega⟩, (fun h => by cases h), (fun h => by cases h), fun _ => hs⟩
    · rw [if_neg hd]
      exact ⟨⟨ok.kind, ok.ar, ok.e, ok.len, ok.fits, ok.wf, by show 2 ≤ 4; omega, (fun h => by cases h), (fun _ _ => hsm), ok.gen, fun _ => by show m.nx + 1 < K.B; omega⟩, (fun h => by cases h), (fun h => by cases h), fun _ => hs⟩
  · unfold mkX
    rw [if_neg (by omega), if_neg (by omega), if_neg (by omega), if_pos e]
    exact ⟨⟨ok.kind, ok.ar, ok.e, ok.len, ok.fits, ok.wf, Nat.le_refl _, (fun h => by cases h), (fun _ h1 => by have : 4 ≤ 3 := h1; omega), ok.gen, fun h1 => by have : 4 ≤ 2 := h1; omega⟩, (fun h => by cases h), (fun h => by cases h), fun h1 => by have : 4 ≤ 3 := h1; omega⟩
theorem frX_ok {K : Cf} {X : List Nat} {f : Fr} (h : f.Ok K) (h2 : f.pc ≤ 2) (hX : ∀ i, X.getD i 0 < 18446744073709551616) : (frX K X f).2.Ok K := by
  have hq := h.q2 h2
  rcases (show f.pc = 0 ∨ f.pc = 1 ∨ f.pc = 2 by omega) with e | e | e
  · unfold frX
    rw [if_pos e]
    exact ⟨h.wf, by show (if _ then 1 else 3) ≤ 3; split <;> omega, fun _ => hq, fdW_lt (hX _) _⟩
  · unfold frX
    rw [if_neg (by omega), if_pos e]
    by_cases hk : kdW f.fd = 4
    · rw [if_pos hk]
      exact ⟨h.wf, Nat.le_refl _, fun _ => hq, h.fd⟩
    · rw [if_neg hk]
      exact ⟨h.wf, by show 2 ≤ 3; omega, fun _ => hq, h.fd⟩
  · have hw := pushX_wf (X := X) h.wf hX
    unfold frX
    rw [if_neg (by omega), if_neg (by omega), if_pos e]
    by_cases hk : (pushX K X f.q).2.pc = 3
    · rw [if_pos hk]
      exact ⟨hw, Nat.le_refl _, (fun h1 => by have : 3 ≤ 2 := h1; omega), h.fd⟩
    · rw [if_neg hk]
      exact ⟨hw, h.pc, (fun _ => by have := hw.pc; show (pushX K X f.q).2.pc ≤ 2; omega), h.fd⟩

/-! Beside a law's own blocks. -/
def MkIn (wr : World) (K : Cf) (P : Nat) (m : Mk) : Prop := ∃ c, wr.heap[P]? = some (.cells c 60 (0, 0)) ∧ MkAt c K m ∧ IsWords wr m.bb m.body
def FrIn (wr : World) (K : Cf) (P : Nat) (f : Fr) : Prop := ∃ c, wr.heap[P]? = some (.cells c 72 (0, 0)) ∧ FrAt c K f
theorem MkIn.chg {L : List Nat} {w w' : World} {K : Cf} {P : Nat} {m : Mk} (h : MkIn w K P m) (c : Chg L w w') (h1 : P ∉ L) (h2 : m.bb ∉ L) : MkIn w' K P m := by
  obtain ⟨cc, a, b, d⟩ := h
  exact ⟨cc, c.at a h1, b, words_chg d c h2⟩
theorem FrIn.chg {L : List Nat} {w w' : World} {K : Cf} {P : Nat} {f : Fr} (h : FrIn w K P f) (c : Chg L w w') (h1 : P ∉ L) : FrIn w' K P f := by
  obtain ⟨cc, a, b⟩ := h
  exact ⟨cc, c.at a h1, b⟩
theorem MkIn.below {w w' : World} {K : Cf} {P : Nat} {m : Mk} (h : MkIn w K P m) (b : Below w.heap.size w w') : MkIn w' K P m := h.chg (L := []) (Chg.of_below b) (by simp) (by simp)
theorem FrIn.below {w w' : World} {K : Cf} {P : Nat} {f : Fr} (h : FrIn w K P f) (b : Below w.heap.size w w') : FrIn w' K P f := h.chg (L := []) (Chg.of_below b) (by simp)
theorem MkIn.lt {w : World} {K : Cf} {P : Nat} {m : Mk} (h : MkIn w K P m) : P < w.heap.size ∧ m.bb < w.heap.size := by
  obtain ⟨cc, a, b, d⟩ := h
  exact ⟨lt_of_block a, lt_of_block (show w.heap[m.bb]? = _ from d)⟩
theorem FrIn.lt {w : World} {K : Cf} {P : Nat} {f : Fr} (h : FrIn w K P f) : P < w.heap.size := by
  obtain ⟨cc, a, b⟩ := h
  exact lt_of_block a
theorem MkIn.cells {w : World} {K : Cf} {P : Nat} {m : Mk} (h : MkIn w K P m) : w.cell? ⟨P, 0, none⟩ = some (.int .i64 m.sl) ∧ w.cell? ⟨P, 1, none⟩ = some (.bool m.full) := by
  obtain ⟨cc, a, b, d⟩ := h
  unfold World.cell?
  simp only [a]
  exact ⟨b.sl, b.full⟩
theorem FrIn.cells {w : World} {K : Cf} {P : Nat} {f : Fr} (h : FrIn w K P f) : w.cell? ⟨P, 0, none⟩ = some (.bool f.back) ∧ w.cell? ⟨P, 1, none⟩ = some (.bool f.gone) := by
  obtain ⟨cc, a, b⟩ := h
  unfold World.cell?
  simp only [a]
  exact ⟨b.back, b.gone⟩

theorem mkX_body (K : Cf) (X : List Nat) (m : Mk) : (mkX K X m).2.bb = m.bb ∧ (mkX K X m).2.body = m.body ∧ (mkX K X m).2.kind = m.kind ∧ (mkX K X m).2.ar = m.ar ∧ (mkX K X m).2.e = m.e := by
  unfold mkX
  repeat' split
  all_goals exact ⟨rfl, rfl, rfl, rfl, rfl⟩
theorem mk_step {wr : World} {M G P : Nat} {X : List Nat} {T : Int} {K : Cf} {m : Mk} (hK : K.Ok) (mem : MemX wr M G X T) (wt : WT wr) (hl : X.length = K.N) (ht : 0 ≤ T ∧ T + 1 < 4611686018427387904) (pos : 0 < P ∧ 0 < M ∧ 0 < G) (hm : MkIn wr K P m) (hk : m.Ok K) (h3 : m.pc ≤ 3) (hP : P ≠ M ∧ P ≠ G) (hb : m.bb ≠ P ∧ m.bb ≠ M ∧ m.bb ≠ G) :
    Calls Tryd.prog 20 #[.pointer (some ⟨P, 0, none⟩), .pointer (some ⟨M, 0, none⟩)] wr fun r w' => r = .returned (.bool (decide ((mkX K X m).2.pc = 4))) ∧ MemX w' M G (mkX K X m).1 (T + 1) ∧ MkIn w' K P (mkX K X m).2 ∧ WT w' ∧ Chg [P, M, G] wr w' := by
  obtain ⟨c, hc, ha, hw⟩ := hm
  have is : InA wr wr M G K.N X T P c 60 := ⟨mem, wt, hl, ⟨ht.1, by omega⟩, hc, Chg.refl _ _, hP, pos⟩
  refine (mk_any hK is ha hk h3 hw (by simp; exact hb) ht.2).mono fun r w' ⟨h1, c', i', a'⟩ => ⟨h1, i'.mem, ⟨c', i'.blk, a', ?_⟩, i'.wt, i'.ch⟩
  obtain ⟨e1, e2, _⟩ := mkX_body K X m
  rw [e1, e2]
  exact words_chg hw i'.ch (by simp; exact hb)
theorem fr_step {wr : World} {M G P : Nat} {X : List Nat} {T : Int} {K : Cf} {f : Fr} (hK : K.Ok) (mem : MemX wr M G X T) (wt : WT wr) (hl : X.length = K.N) (ht : 0 ≤ T ∧ T + 1 < 4611686018427387904) (pos : 0 < P ∧ 0 < M ∧ 0 < G) (hm : FrIn wr K P f) (hk : f.Ok K) (h2 : f.pc ≤ 2) (hP : P ≠ M ∧ P ≠ G) :
    Calls Tryd.prog 26 #[.pointer (some ⟨P, 0, none⟩), .pointer (some ⟨M, 0, none⟩)] wr fun r w' => r = .returned (.bool (decide ((frX K X f).2.pc = 3))) ∧ MemX w' M G (frX K X f).1 (T + 1) ∧ FrIn w' K P (frX K X f).2 ∧ WT w' ∧ Chg [P, M, G] wr w' := by
  obtain ⟨c, hc, ha⟩ := hm
  have is : InA wr wr M G K.N X T P c 72 := ⟨mem, wt, hl, ⟨ht.1, by omega⟩, hc, Chg.refl _ _, hP, pos⟩
  exact (fr_any hK is ha hk h2 ht.2).mono fun r w' ⟨h1, c', i', a'⟩ => ⟨h1, i'.mem, ⟨c', i'.blk, a'⟩, i'.wt, i'.ch⟩
end Go.Proofs.YtjbjijkkmlehgaaDoor
/- The law's own 'awake': the document's example. -/
namespace Go.Proofs.YtjbjijkkmlehgaaDoor
open Go.RowKit
open Mm (IsMem MS touched Only IsWords zeroMS)
open Hh (WT wordOf bornN okW Hr)

def K1 : Cf := ⟨1, 0, 1, 1, 2, 0, 3⟩
theorem K1_ok : K1.Ok := ⟨by decide, by decide, by decide, by decide, by decide, by decide, by decide, by decide⟩
def memK0 (K : Cf) : MS := zeroMS (memX K.C K.D K.B K.N (K.S - 1))
theorem wordsX {w : World} {M G : Nat} {X : List Nat} {T : Int} {n : Nat} (h : MemX w M G X T) (hn : X.length = n) (hl : n ≤ 65536) : Calls Tryd.prog 13 #[.pointer (some ⟨M, 0, none⟩)] w fun e w' => ∃ R, e = .returned (.slice (some ⟨R, 0, none⟩) n n) ∧ IsWords w' R X ∧ w.heap.size ≤ R ∧ Below w.heap.size w w' := by
  obtain ⟨m, hm, hX, _⟩ := h
  subst hX hn
  exact Mm.words_any hm hl

/-- The Make of the example, step by step. -/
def awM (R : Nat) : Nat → List Nat × Mk
  | 0 => ((memK0 K1).X, mk0 1 0 0 R 3 [])
  | n + 1 => mkX K1 (awM R n).1 (awM R n).2
def awF : Nat → List Nat × Fr
  | 0 => ([1, 0, 0, 65536, 0, 0, 0, 0, 3, 0, 0, 0, 0], ⟨false, false, ⟨0, 0, 0⟩, 0, 0⟩)
  | n + 1 => frX K1 (awF n).1 (awF n).2
set_option maxRecDepth 100000 in
theorem awM_pc (R : Nat) : (awM R 0).2.pc = 0 ∧ (awM R 1).2.pc = 0 ∧ (awM R 2).2.pc = 0 ∧ (awM R 3).2.pc = 1 ∧ (awM R 4).2.pc = 2 ∧ (awM R 5).2.pc = 2 ∧ (awM R 6).2.pc = 2 ∧ (awM R 7).2.pc = 3 ∧ (awM R 8).2.pc = 4 ∧ (awM R 8).2.sl = 0 ∧ (awM R 8).1 = [1, 0, 0, 65536, 0, 0, 0, 0, 1, 0, 0, 0, 0] :=
  ⟨by kernel_rfl, by kernel_rfl, by kernel_rfl, by kernel_rfl, by kernel_rfl, by kernel_rfl, by kernel_rfl, by kernel_rfl, by kernel_rfl, by kernel_rfl, by kernel_rfl⟩
theorem awF_pc : (awF 0).2.pc = 0 ∧ (awF 1).2.pc = 1 ∧ (awF 2).2.pc = 2 ∧ (awF 3).2.pc = 2 ∧ (awF 4).2.pc = 2 ∧ (awF 5).2.pc = 3 ∧ (awF 5).2.back = true ∧ (awF 5).2.gone = false ∧ (awF 5).1 = [1, 0, 0, 131073, 0, 0, 0, 0, 65536, 0, 0, 0, 0] :=
  ⟨by kernel_rfl, by kernel_rfl, by kernel_rfl, by kernel_rfl, by kernel_rfl, by kernel_rfl, by kernel_rfl, by kernel_rfl, by kernel_rfl⟩
theorem awM_key (R k : Nat) (hk : k ≤ 8) : (awM R k).2.pc = [0, 0, 0, 1, 2, 2, 2, 3, 4].getD k 9 := by
  obtain ⟨h0, h1, h2, h3, h4, h5, h6, h7, h8, _⟩ := awM_pc R
  rcases (show k = 0 ∨ k = 1 ∨ k = 2 ∨ k = 3 ∨ k = 4 ∨ k = 5 ∨ k = 6 ∨ k = 7 ∨ k = 8 by omega) with rfl | rfl | rfl | rfl | rfl | rfl | rfl | rfl | rfl
  · exact h0
  · exact h1
  · exact h2
  · exact h3
  · exact h4
  · exact h5
  · exact h6
  · exact h7
  · exact h8
theorem awF_key (k : Nat) (hk : k ≤ 5) : (awF k).2.pc = [0, 1, 2, 2, 2, 3].getD k 9 := by
  obtain ⟨h0, h1, h2, h3, h4, h5, _⟩ := awF_pc
  rcases (show k = 0 ∨ k = 1 ∨ k = 2 ∨ k = 3 ∨ k = 4 ∨ k = 5 by omega) with rfl | rfl | rfl | rfl | rfl | rfl
  · exact h0
  · exact h1
  · exact h2
  · exact h3
  · exact h4
  · exact h5
theorem awM_le (R n : Nat) (hn : n < 8) : (awM R n).2.pc ≤ 3 ∧ ((awM R (n + 1)).2.pc = 4 ↔ n = 7) := by
  have k1 := awM_key R n (by omega)
  have k2 := awM_key R (n + 1) (by omega)
  generalize (awM R n).2.pc = a at *
  generalize (awM R (n + 1)).2.pc = b at *
  rcases (show n = 0 ∨ n = 1 ∨ n = 2 ∨ n = 3 ∨ n = 4 ∨ n = 5 ∨ n = 6 ∨ n = 7 by omega) with rfl | rfl | rfl | rfl | rfl | rfl | rfl | rfl <;> simp at k1 k2 <;> omega
theorem awF_le (n : Nat) (hn : n < 5) : (awF n).2.pc ≤ 2 ∧ ((awF (n + 1)).2.pc = 3 ↔ n = 4) := by
  have k1 := awF_key n (by omega)
  have k2 := awF_key (n + 1) (by omega)
  generalize (awF n).2.pc = a at *
  generalize (awF (n + 1)).2.pc = b at *
  rcases (show n = 0 ∨ n = 1 ∨ n = 2 ∨ n = 3 ∨ n = 4 by omega) with rfl | rfl | rfl | rfl | rfl <;> simp at k1 k2 <;> omega
theorem awM_len (R : Nat) : ∀ n, (awM R n).1.length = 13
  | 0 => by kernel_rfl
  | n + 1 => by show (mkX _ _ _).1.length = 13; rw [mkX_len]; exact awM_len R n
theorem awF_len : ∀ n, (awF n).1.length = 13
  | 0 => by kernel_rfl
  | n + 1 => by show (frX _ _ _).1.length = 13; rw [frX_len]; exact awF_len n
theorem awM_bb (R : Nat) : ∀ n, (awM R n).2.bb = R
  | 0 => rfl
  | n + 1 => by show (mkX _ _ _).2.bb = R; rw [(mkX_body _ _ _).1]; exact awM_bb R n

/-- The example's world while the Make works. -/
structure AwA (w wr : World) (M G P Q R n : Nat) : Prop where
  ds : Ds w wr K1 M G (awM R n).1 n
  ma : MkIn wr K1 P (awM R n).2
  fit : (awM R n).2.Fit K1
  fr : FrIn wr K1 Q ⟨false, false, ⟨0, 0, 0⟩, 0, 0⟩
  ap : P ≠ M ∧ P ≠ G ∧ Q ≠ M ∧ Q ≠ G ∧ P ≠ Q ∧ R ≠ P ∧ R ≠ M ∧ R ≠ G
  hi : w.heap.size + 1 ≤ P ∧ w.heap.size + 1 ≤ Q ∧ w.heap.size + 1 ≤ R
theorem AwA.step {w wr : World} {M G P Q R n : Nat} (h : AwA w wr M G P Q R n) (hn : n < 8) :
    Calls Tryd.prog 20 #[.pointer (some ⟨P, 0, none⟩), .pointer (some ⟨M, 0, none⟩)] wr fun r w' => r = .returned (.bool (decide (n = 7))) ∧ AwA w w' M G P Q R (n + 1) := by
  obtain ⟨p1, p2⟩ := awM_le R n hn
  have hb := awM_bb R n
  have ap := h.ap
  have hi := h.hi
  have hM := h.ds.hM
  have hG := h.ds.hG
  refine (mk_step K1_ok h.ds.mem h.ds.wt (awM_len R n) (by omega) (by omega) h.ma h.fit.ok p1 (by omega) (by rw [hb]; omega)).mono fun r w' ⟨h1, h2, h3, h4, h5⟩ => ⟨?_, ?_⟩
  · rw [h1]
    exact congrArg (fun b => Ending.returned (Value.bool b)) (decide_eq_decide.2 p2)
  · exact ⟨by have := h.ds.chg h5 (by omega) h2 h4; push_cast; exact this, h3, mkX_fit h.fit p1 (fun i => h.ds.mem.fits i), h.fr.chg h5 (by simp; omega), ap, hi⟩
/-- The example's world while the Free works. -/
structure AwB (w wr : World) (M G Q n : Nat) : Prop where
  ds : Ds w wr K1 M G (awF n).1 (9 + n)
  fr : FrIn wr K1 Q (awF n).2
  ok : (awF n).2.Ok K1
  ap : Q ≠ M ∧ Q ≠ G
  hi : w.heap.size + 1 ≤ Q
theorem AwB.step {w wr : World} {M G Q n : Nat} (h : AwB w wr M G Q n) (hn : n < 5) :
    Calls Tryd.prog 26 #[.pointer (some ⟨Q, 0, none⟩), .pointer (some ⟨M, 0, none⟩)] wr fun r w' => r = .returned (.bool (decide (n = 4))) ∧ AwB w w' M G Q (n + 1) := by
  obtain ⟨p1, p2⟩ := awF_le n hn
  have ap := h.ap
  have hi := h.hi
  have hM := h.ds.hM
  have hG := h.ds.hG
  refine (fr_step K1_ok h.ds.mem h.ds.wt (awF_len n) (by omega) (by omega) h.fr h.ok p1 (by omega)).mono fun r w' ⟨h1, h2, h3, h4, h5⟩ => ⟨?_, ?_⟩
  · rw [h1]
    exact congrArg (fun b => Ending.returned (Value.bool b)) (decide_eq_decide.2 p2)
  · exact ⟨by have := h.ds.chg h5 (by omega) h2 h4; push_cast; rw [← Int.add_assoc]; exact this, h3, frX_ok h.ok p1 (fun i => h.ds.mem.fits i), ap, hi⟩
theorem AwB.below {w wr w1 : World} {M G Q n : Nat} (h : AwB w wr M G Q n) (b : Below wr.heap.size wr w1) : AwB w w1 M G Q n := ⟨h.ds.below b, h.fr.below b, h.ok, h.ap, h.hi⟩
theorem AwB.held {w wr : World} {M G Q : Nat} (h : AwB w wr M G Q 5) : (wr.cell? ⟨w.heap.size, 0, none⟩ = some (.int .i64 1) ∧ wr.cell? ⟨w.heap.size, 1, none⟩ = some (.int .i64 0) ∧ wr.cell? ⟨w.heap.size, 2, none⟩ = some (.int .i64 1) ∧ wr.cell? ⟨w.heap.size, 3, none⟩ = some (.int .i64 1) ∧ wr.cell? ⟨w.heap.size, 4, none⟩ = some (.int .i64 2) ∧ wr.cell? ⟨w.heap.size, 5, none⟩ = some (.int .i64 0)) ∧ wr.cell? ⟨Q, 0, none⟩ = some (.bool true) ∧ wr.cell? ⟨Q, 1, none⟩ = some (.bool false) := by
  obtain ⟨_, _, _, _, _, _, h6, h7, _⟩ := awF_pc
  have hc := h.fr.cells
  rw [h6, h7] at hc
  exact ⟨h.ds.cfg.cells, hc⟩
theorem AwB.words {w wr : World} {M G Q : Nat} (h : AwB w wr M G Q 5) : Calls Tryd.prog 13 #[.pointer (some ⟨M, 0, none⟩)] wr fun e w' => ∃ R, e = .returned (.slice (some ⟨R, 0, none⟩) 13 13) ∧ IsWords w' R [1, 0, 0, 131073, 0, 0, 0, 0, 65536, 0, 0, 0, 0] ∧ AwB w w' M G Q 5 := by
  obtain ⟨_, _, _, _, _, _, _, _, h8⟩ := awF_pc
  have hm := h.ds.mem
  rw [h8] at hm
  exact (wordsX (n := 13) hm rfl (by omega)).mono fun e w' ⟨R, h1, h2, h3, h4⟩ => ⟨R, h1, h2, h.below h4⟩

/-- Behind the Make's end. -/
theorem AwA.done {w wr : World} {M G P Q R : Nat} (h : AwA w wr M G P Q R 8) : Ds w wr K1 M G [1, 0, 0, 65536, 0, 0, 0, 0, 1, 0, 0, 0, 0] 8 ∧ wr.cell? ⟨P, 0, none⟩ = some (.int .i64 0) ∧ FrIn wr K1 Q ⟨false, false, ⟨0, 0, 0⟩, 0, 0⟩ := by
  obtain ⟨_, _, _, _, _, _, _, _, _, h9, h10⟩ := awM_pc R
  have hd := h.ds
  rw [h10] at hd
  have hc := h.ma.cells.1
  rw [h9] at hc
  exact ⟨hd, hc, h.fr⟩
theorem aw_store {w wr : World} {M G Q : Nat} (hd : Ds w wr K1 M G [1, 0, 0, 65536, 0, 0, 0, 0, 1, 0, 0, 0, 0] 8) (hf : FrIn wr K1 Q ⟨false, false, ⟨0, 0, 0⟩, 0, 0⟩) (ap : Q ≠ M ∧ Q ≠ G) (hi : w.heap.size + 1 ≤ Q) :
    Calls Tryd.prog 24 #[.pointer (some ⟨M, 0, none⟩), .int .i64 8, .int .u64 3] wr fun e w' => e = .returned (.bool true) ∧ AwB w w' M G Q 0 := by
  have hM := hd.hM
  have hG := hd.hG
  refine (storeX (i := 8) (v := 3) hd.mem (by decide) (by decide) (by omega)).mono fun e w' ⟨h1, h2, h3⟩ => ⟨h1, ?_⟩
  have ch : Chg [Q, M, G] wr w' := Chg.of_only h3 (by simp) (by simp)
  have ch2 : Chg [M, G] wr w' := Chg.of_only h3 (by simp) (by simp)
  exact ⟨hd.chg ch hi h2 (WT.chg hd.wt ch2 (by simp; omega)), hf.chg ch2 (by simp; omega), ⟨⟨by show 0 ≤ 3; omega, by show 0 < 18446744073709551616; omega, by decide⟩, by show 0 ≤ 3; omega, fun _ => by show 0 ≤ 2; omega, by show 0 < 18446744073709551616; omega⟩, ap, hi⟩

set_option maxRecDepth 100000 in
set_option maxHeartbeats 8000000 in
theorem awake_any (w : World) (hw : WT w) : Calls Tryd.prog 10 #[] w fun e w' => e = .returned (.bool true) ∧ Below w.heap.size w w' := by
  have c9 : ∀ w, Calls Tryd.prog 9 #[.agg (cs 1 0 1 1 2 0)] w fun e w' => ∃ M G, e = .returned (.pointer (some ⟨M, 0, none⟩)) ∧ IsMem w' M G (memK0 K1) ∧ w.heap.size ≤ M ∧ w.heap.size ≤ G ∧ Below w.heap.size w w' :=
    memory_yes K1_ok.r K1_ok.b K1_ok.b8 K1_ok.c8 K1_ok.d16 K1_ok.s64 K1_ok.s1 K1_ok.d1
  have c19 : ∀ w, Calls Tryd.prog 19 #[.agg (cs 1 0 1 1 2 0), .int .i64 1, .int .i64 0, .int .u64 0, .slice none 0 0] w fun e w' => ∃ P R c, e = .returned (.pointer (some ⟨P, 0, none⟩)) ∧ NewBlk w w' P c 60 ∧ MkAt c K1 (mk0 1 0 0 R 3 []) ∧ IsWords w' R (fillW 3 []) ∧ w.heap.size ≤ R ∧ R ≠ P := fun w =>
    newMake_yes (Y := []) (n := 0) (cap := 0) K1_ok 1 0 0 (by decide) (fun i hi => by simp at hi) rfl (by omega)
  have c21 : ∀ w, Calls Tryd.prog 21 #[.agg (cs 1 0 1 1 2 0), .int .i64 0] w fun e w' => ∃ P c, e = .returned (.pointer (some ⟨P, 0, none⟩)) ∧ NewBlk w w' P c 72 ∧ FrAt c K1 ⟨false, false, ⟨0, 0, 0⟩, 0, 0⟩ := fun w => newFree_yes K1_ok (s := 0) (by decide) w
  have c39 : ∀ w, Calls Tryd.prog 39 #[.agg (cs 1 0 1 1 2 0), .int .i64 0] w fun e w' => e = .returned (.int .i64 8) ∧ Below w.heap.size w w' := fun w => header_at K1_ok (s := 0) (by decide) rfl w
  have c25 : ∀ w, Calls Tryd.prog 25 #[.agg #[.int .i64 3, .int .i64 0, .bool false, .int .i64 0, .int .i64 0, .int .i64 0]] w fun e w' => e = .returned (.int .u64 3) ∧ Below w.heap.size w w' := Hh.rpack_any 3 0 false 0 0 0 (by decide) (by decide) (by decide) (by decide) (by decide)
  have c25b : ∀ w, Calls Tryd.prog 25 #[.agg #[.int .i64 0, .int .i64 0, .bool false, .int .i64 0, .int .i64 1, .int .i64 0]] w fun e w' => e = .returned (.int .u64 65536) ∧ Below w.heap.size w w' := Hh.rpack_any 0 0 false 0 1 0 (by decide) (by decide) (by decide) (by decide) (by decide)
  have bel := alloc_below w (.cells #[.int .i64 1, .int .i64 0, .int .i64 1, .int .i64 1, .int .i64 2, .int .i64 0] 23)
  have hh := cfg_new w 1 0 1 1 2 0
  replace hw := hw.below bel
  go_enter Tryd.func10, Tryd.ntmps10
  go_upto_region 2 with fail
  generalize w.alloc (.cells #[.int .i64 1, .int .i64 0, .int .i64 1, .int .i64 1, .int .i64 2, .int .i64 0] 23) = w0 at *
  obtain ⟨l0, l1, l2, l3, l4, l5⟩ := hh.cells
  go_upto_region 3 with (first
    | (go_at_call 9; refine (c9 _).mono ?_; rintro e w1 ⟨M, G, rfl, hm, hM, hG, hb⟩))
  have hlt := hh.lt
  have ds : Ds w w1 K1 M G (awM 0 0).1 0 := ⟨⟨_, hm, rfl, rfl⟩, hh.below hb, seq_below bel hb, hw.below hb, by omega, by omega⟩
  clear l0 l1 l2 l3 l4 l5 hb hlt c9 hh hw bel hm hM hG
  replace ds := ds.drew
  have hcf : ∀ wr, Ds w wr K1 M G (awM 0 0).1 0 → wr.cell? ⟨w.heap.size, 0, none⟩ = some (.int .i64 1) ∧ wr.cell? ⟨w.heap.size, 1, none⟩ = some (.int .i64 0) ∧ wr.cell? ⟨w.heap.size, 2, none⟩ = some (.int .i64 1) ∧ wr.cell? ⟨w.heap.size, 3, none⟩ = some (.int .i64 1) ∧ wr.cell? ⟨w.heap.size, 4, none⟩ = some (.int .i64 2) ∧ wr.cell? ⟨w.heap.size, 5, none⟩ = some (.int .i64 0) := fun wr x => x.cfg.cells
  go_region_held (fun wr => wr.cell? ⟨w.heap.size, 0, none⟩ = some (.int .i64 1) ∧ wr.cell? ⟨w.heap.size, 1, none⟩ = some (.int .i64 0) ∧ wr.cell? ⟨w.heap.size, 2, none⟩ = some (.int .i64 1) ∧ wr.cell? ⟨w.heap.size, 3, none⟩ = some (.int .i64 1) ∧ wr.cell? ⟨w.heap.size, 4, none⟩ = some (.int .i64 2) ∧ wr.cell? ⟨w.heap.size, 5, none⟩ = some (.int .i64 0)) (with_reducible exact hcf _ ds) (first
    | (go_at_call 19; with_reducible refine (c19 _).mono ?_; rintro e w3 ⟨P, R, cP, rfl, nP, aP, rP, hR, hRP⟩; have hs0 := ds.lt; have hMG := ds.mem.lt; replace ds := ds.below nP.bel)
    | (go_at_call 21; with_reducible refine (c21 _).mono ?_; rintro e w4 ⟨Q, cQ, rfl, nQ, aQ⟩; replace ds := ds.below nQ.bel))
  have nPn := nP.new
  have nQn := nQ.new
  have hsz := nP.bel.size
  have hPl := lt_of_block nP.blk
  have hRl := lt_of_block (show w3.heap[R]? = _ from rP)
  have mk : MkIn w3 K1 P (mk0 1 0 0 R 3 []) := ⟨cP, nP.blk, aP, rP⟩
  have aw : AwA w w4 M G P Q R 0 := ⟨ds, mk.below nQ.bel, mk0_fit K1_ok (.inl rfl) (by decide) (by decide) (fun i => by simp), ⟨cQ, nQ.blk, aQ⟩, by omega, by omega⟩
  clear ds mk nP nQ aP aQ rP hR hRP hs0 nPn nQn hsz hPl hRl c19 c21 hcf
  go_wp2
  go_loopw [5] (fun i wr => ∃ n : Nat, n ≤ 7 ∧ i = .int .i64 n ∧ AwA w wr M G P Q R n) (fun i _ => 8 - (intOf i).toNat)
  case atStart => exact ⟨0, by omega, rfl, aw⟩
  case round =>
    clear aw
    obtain ⟨n, hn, rfl, aw⟩ := hrel
    have c20 := aw.step (by omega)
    by_cases h7 : n = 7
    · subst h7
      go_upto_region 9 with (go_at_call 20; refine c20.mono ?_; rintro e w5 ⟨rfl, aw⟩)
      clear c20
      obtain ⟨hd, hsl, hf⟩ := aw.done
      have apQ : Q ≠ M ∧ Q ≠ G := by have := aw.ap; omega
      have hiQ : w.heap.size + 1 ≤ Q := aw.hi.2.1
      clear aw
      obtain ⟨l0, l1, l2, l3, l4, l5⟩ := hd.cfg.cells
      simp only [K1] at l0 l1 l2 l3 l4 l5
      go_upto_region 11 with (first
        | (go_at_call 39; refine (c39 _).mono ?_; rintro e w6 ⟨rfl, b⟩; replace hd := hd.below b; replace hf := hf.below b; clear b)
        | (go_at_call 25; refine (c25 _).mono ?_; rintro e w7 ⟨rfl, b⟩; replace hd := hd.below b; replace hf := hf.below b; clear b)
        | (go_at_call 24; refine (aw_store hd hf apQ hiQ).mono ?_; rintro e w8 ⟨rfl, awb⟩))
      clear l0 l1 l2 l3 l4 l5 hd hf apQ hiQ hsl c25
      go_wp2
      go_loopw [6] (fun i wr => ∃ n : Nat, n ≤ 4 ∧ i = .int .i64 n ∧ AwB w wr M G Q n) (fun i _ => 8 - (intOf i).toNat)
      case atStart => exact ⟨0, by omega, rfl, awb⟩
      case round =>
        clear awb
        obtain ⟨n, hn, rfl, awb⟩ := hrel
        have c26 := awb.step (by omega)
        by_cases h4 : n = 4
        · subst h4
          go_upto_region 14 with (go_at_call 26; refine c26.mono ?_; rintro e w9 ⟨rfl, awb⟩)
          clear c26
          replace awb := awb.below (Below.refl _ _).drew
          have hS0 := awb.held
          refine wp_region_held_drew (S := fun wr => (wr.cell? ⟨w.heap.size, 0, none⟩ = some (.int .i64 1) ∧ wr.cell? ⟨w.heap.size, 1, none⟩ = some (.int .i64 0) ∧ wr.cell? ⟨w.heap.size, 2, none⟩ = some (.int .i64 1) ∧ wr.cell? ⟨w.heap.size, 3, none⟩ = some (.int .i64 1) ∧ wr.cell? ⟨w.heap.size, 4, none⟩ = some (.int .i64 2) ∧ wr.cell? ⟨w.heap.size, 5, none⟩ = some (.int .i64 0)) ∧ wr.cell? ⟨Q, 0, none⟩ = some (.bool true) ∧ wr.cell? ⟨Q, 1, none⟩ = some (.bool false)) (by kernel_rfl) hS0 (fun hS1 => ?_)
          clear hS0
          refine wpAnyH_take (i := 0) (oi := { dst := some 58, op := Go.Op.move (Go.Operand.tmp 4), type := 39, pos := "law.go:30", after := #[], guard := none }) (v := .pointer (some ⟨Q, 0, none⟩)) rfl (by kernel_rfl) (by kernel_rfl) (by kernel_rfl) (fun _ _ _ h => h) (Or.inl ⟨by rfl, fun w hSw => by (try dsimp only at hSw); go_simp⟩) hS1 ?_
          simp only [Act.put, List.setIfInBounds_toArray, List.set_cons_zero, List.set_cons_succ]
          refine wpAnyH_take (i := 1) (oi := { dst := some 59, op := Go.Op.nilCheck (Go.Operand.tmp 58), type := 0, pos := "law.go:30", after := #[{ on := 0, ground := Go.Ground.data }], guard := none }) (v := .pointer (some ⟨Q, 0, none⟩)) rfl (by kernel_rfl) (by kernel_rfl) (by kernel_rfl) (fun _ _ _ h => h) (Or.inl ⟨by rfl, fun w hSw => by (try dsimp only at hSw); go_simp⟩) hS1 ?_
          simp only [Act.put, List.setIfInBounds_toArray, List.set_cons_zero, List.set_cons_succ]
          refine wpAnyH_take (i := 2) (oi := { dst := some 60, op := Go.Op.fieldAddr 72 (Go.Operand.tmp 59) 0, type := 0, pos := "law.go:30", after := #[{ on := 1, ground := Go.Ground.data }], guard := none }) (v := .pointer (some ⟨Q, 0, none⟩)) rfl (by kernel_rfl) (by kernel_rfl) (by kernel_rfl) (fun _ _ _ h => h) (Or.inl ⟨by rfl, fun w hSw => by (try dsimp only at hSw); go_simp⟩) hS1 ?_
          simp only [Act.put, List.setIfInBounds_toArray, List.set_cons_zero, List.set_cons_succ]
          refine wpAnyH_take (i := 3) (oi := { dst := some 61, op := Go.Op.load 4 (Go.Operand.tmp 60), type := 4, pos := "law.go:30", after := #[{ on := 2, ground := Go.Ground.data }], guard := none }) (v := .bool true) rfl (by kernel_rfl) (by kernel_rfl) (by kernel_rfl) (fun _ _ _ h => h) (Or.inl ⟨by rfl, fun w hSw => by (try dsimp only at hSw); go_simp⟩) hS1 ?_
          simp only [Act.put, List.setIfInBounds_toArray, List.set_cons_zero, List.set_cons_succ]
          refine wpAnyH_take (i := 4) (oi := { dst := some 62, op := Go.Op.move (Go.Operand.tmp 61), type := 4, pos := "law.go:30", after := #[{ on := 3, ground := Go.Ground.data }], guard := none }) (v := .bool true) rfl (by kernel_rfl) (by kernel_rfl) (by kernel_rfl) (fun _ _ _ h => h) (Or.inl ⟨by rfl, fun w hSw => by (try dsimp only at hSw); go_simp⟩) hS1 ?_
          simp only [Act.put, List.setIfInBounds_toArray, List.set_cons_zero, List.set_cons_succ]
          refine wpAnyH_take (i := 5) (oi := { dst := some 63, op := Go.Op.move (Go.Operand.tmp 4), type := 39, pos := "law.go:30", after := #[{ on := 4, ground := Go.Ground.guard }], guard := some (4, true) }) (v := .pointer (some ⟨Q, 0, none⟩)) rfl (by kernel_rfl) (by kernel_rfl) (by kernel_rfl) (fun _ _ _ h => h) (Or.inl ⟨by rfl, fun w hSw => by (try dsimp only at hSw); go_simp⟩) hS1 ?_
          simp only [Act.put, List.setIfInBounds_toArray, List.set_cons_zero, List.set_cons_succ]
          refine wpAnyH_take (i := 6) (oi := { dst := some 64, op := Go.Op.nilCheck (Go.Operand.tmp 63), type := 0, pos := "law.go:30", after := #[{ on := 5, ground := Go.Ground.data }, { on := 4, ground := Go.Ground.guard }], guard := some (4, true) }) (v := .pointer (some ⟨Q, 0, none⟩)) rfl (by kernel_rfl) (by kernel_rfl) (by kernel_rfl) (fun _ _ _ h => h) (Or.inl ⟨by rfl, fun w hSw => by (try dsimp only at hSw); go_simp⟩) hS1 ?_
          simp only [Act.put, List.setIfInBounds_toArray, List.set_cons_zero, List.set_cons_succ]
          refine wpAnyH_take (i := 7) (oi := { dst := some 65, op := Go.Op.fieldAddr 72 (Go.Operand.tmp 64) 1, type := 0, pos := "law.go:30", after := #[{ on := 6, ground := Go.Ground.data }, { on := 4, ground := Go.Ground.guard }], guard := some (4, true) }) (v := .pointer (some ⟨Q, 1, none⟩)) rfl (by kernel_rfl) (by kernel_rfl) (by kernel_rfl) (fun _ _ _ h => h) (Or.inl ⟨by rfl, fun w hSw => by (try dsimp only at hSw); go_simp⟩) hS1 ?_
          simp only [Act.put, List.setIfInBounds_toArray, List.set_cons_zero, List.set_cons_succ]
          refine wpAnyH_take (i := 8) (oi := { dst := some 66, op := Go.Op.load 4 (Go.Operand.tmp 65), type := 4, pos := "law.go:30", after := #[{ on := 7, ground := Go.Ground.data }, { on := 4, ground := Go.Ground.guard }], guard := some (4, true) }) (v := .bool false) rfl (by kernel_rfl) (by kernel_rfl) (by kernel_rfl) (fun _ _ _ h => h) (Or.inl ⟨by rfl, fun w hSw => by (try dsimp only at hSw); go_simp⟩) hS1 ?_
          simp only [Act.put, List.setIfInBounds_toArray, List.set_cons_zero, List.set_cons_succ]
          refine wpAnyH_take (i := 9) (oi := { dst := some 67, op := Go.Op.unOp Go.UnOp.not 4 (Go.Operand.tmp 66), type := 4, pos := "law.go:30", after := #[{ on := 8, ground := Go.Ground.data }, { on := 4, ground := Go.Ground.guard }], guard := some (4, true) }) (v := .bool true) rfl (by kernel_rfl) (by kernel_rfl) (by kernel_rfl) (fun _ _ _ h => h) (Or.inl ⟨by rfl, fun w hSw => by (try dsimp only at hSw); go_simp⟩) hS1 ?_
          simp only [Act.put, List.setIfInBounds_toArray, List.set_cons_zero, List.set_cons_succ]
          refine wpAnyH_take (i := 10) (oi := { dst := some 68, op := Go.Op.pick (Go.Operand.tmp 62) (Go.Operand.tmp 67) (Go.Operand.const (Go.Value.bool false)), type := 4, pos := "law.go:30", after := #[{ on := 4, ground := Go.Ground.data }, { on := 9, ground := Go.Ground.data }], guard := none }) (v := .bool true) rfl (by kernel_rfl) (by kernel_rfl) (by kernel_rfl) (fun _ _ _ h => h) (Or.inl ⟨by rfl, fun w hSw => by (try dsimp only at hSw); go_simp⟩) hS1 ?_
          simp only [Act.put, List.setIfInBounds_toArray, List.set_cons_zero, List.set_cons_succ]
          refine wpAnyH_take (i := 11) (oi := { dst := some 69, op := Go.Op.move (Go.Operand.tmp 68), type := 4, pos := "law.go:30", after := #[{ on := 10, ground := Go.Ground.data }, { on := 4, ground := Go.Ground.chain }], guard := none }) (v := .bool true) rfl (by kernel_rfl) (by kernel_rfl) (by kernel_rfl) (fun _ _ _ h => h) (Or.inl ⟨by rfl, fun w hSw => by (try dsimp only at hSw); go_simp⟩) hS1 ?_
          simp only [Act.put, List.setIfInBounds_toArray, List.set_cons_zero, List.set_cons_succ]
          refine wpAnyH_take (i := 12) (oi := { dst := some 70, op := Go.Op.move (Go.Operand.tmp 2), type := 28, pos := "law.go:30", after := #[{ on := 11, ground := Go.Ground.guard }], guard := some (11, true) }) (v := .pointer (some ⟨M, 0, none⟩)) rfl (by kernel_rfl) (by kernel_rfl) (by kernel_rfl) (fun _ _ _ h => h) (Or.inl ⟨by rfl, fun w hSw => by (try dsimp only at hSw); go_simp⟩) hS1 ?_
          simp only [Act.put, List.setIfInBounds_toArray, List.set_cons_zero, List.set_cons_succ]
          refine wpAnyH_take (i := 14) (oi := { dst := some 72, op := Go.Op.load 23 (Go.Operand.tmp 1), type := 23, pos := "law.go:30", after := #[{ on := 11, ground := Go.Ground.guard }], guard := some (11, true) }) (v := .agg #[.int .i64 1, .int .i64 0, .int .i64 1, .int .i64 1, .int .i64 2, .int .i64 0]) rfl (by kernel_rfl) (by kernel_rfl) (by kernel_rfl) (fun _ _ _ h => h) (Or.inl ⟨by rfl, fun w hSw => by (try dsimp only at hSw); go_simp⟩) hS1 ?_
          simp only [Act.put, List.setIfInBounds_toArray, List.set_cons_zero, List.set_cons_succ]
          refine wpAnyH_take (i := 18) (oi := { dst := some 76, op := Go.Op.build 48 #[(4, Go.Operand.const (Go.Value.int Go.IntKind.i64 1))], type := 48, pos := "law.go:30", after := #[{ on := 11, ground := Go.Ground.guard }], guard := some (11, true) }) (v := .agg #[.int .i64 0, .int .i64 0, .bool false, .int .i64 0, .int .i64 1, .int .i64 0]) rfl (by kernel_rfl) (by kernel_rfl) (by kernel_rfl) (fun _ _ _ h => h) (Or.inl ⟨by rfl, fun w hSw => by (try dsimp only at hSw); go_simp⟩) hS1 ?_
          simp only [Act.put, List.setIfInBounds_toArray, List.set_cons_zero, List.set_cons_succ]
          refine wpAnyH_ready (rs := [13]) (by kernel_rfl) (by simp) (AllReadyH.cons (o := { dst := some 71, op := Go.Op.call { callee := Go.Callee.value (Go.Operand.func 13), args := #[Go.Operand.tmp 70], argTypes := #[28] }, type := 44, pos := "law.go:30", after := #[{ on := 12, ground := Go.Ground.data }, { on := 11, ground := Go.Ground.chain }, { on := 11, ground := Go.Ground.guard }], guard := some (11, true) }) rfl (fun K hK => ?_) AllReadyH.nil)
          go_simp
          go_at_call 13
          with_reducible refine awb.words.mono ?_
          rintro e w8 ⟨R8, rfl, hR8, awb⟩
          (try simp only [])
          refine hK.out _ _ awb.held (fun hS1 => ?_)
          (try simp only [Act.put, List.setIfInBounds_toArray, List.set_cons_zero, List.set_cons_succ])
          clear hK K
          refine wpAnyH_ready (rs := [15]) (by kernel_rfl) (by simp) (AllReadyH.cons (o := { dst := some 73, op := Go.Op.call { callee := Go.Callee.value (Go.Operand.func 39), args := #[Go.Operand.tmp 72, Go.Operand.const (Go.Value.int Go.IntKind.i64 0)], argTypes := #[23, 3] }, type := 3, pos := "law.go:30", after := #[{ on := 14, ground := Go.Ground.data }, { on := 13, ground := Go.Ground.chain }, { on := 11, ground := Go.Ground.guard }], guard := some (11, true) }) rfl (fun K hK => ?_) AllReadyH.nil)
          go_simp
          go_at_call 39
          with_reducible refine (c39 _).mono ?_
          rintro e w9 ⟨rfl, b⟩
          (try simp only [])
          replace awb := awb.below b
          have hR9 := words_below hR8 b
          have r0 : w9.cell? ⟨R8, 8, none⟩ = some (.int .u64 65536) := Mm.words_at hR9 8 (by decide)
          refine hK.out _ _ awb.held (fun hS1 => ?_)
          (try simp only [Act.put, List.setIfInBounds_toArray, List.set_cons_zero, List.set_cons_succ])
          clear hK K hR8 b
          refine wpAnyH_take (i := 16) (oi := { dst := some 74, op := Go.Op.indexAddr 44 (Go.Operand.tmp 71) (Go.Operand.tmp 73), type := 0, pos := "law.go:30", after := #[{ on := 13, ground := Go.Ground.data }, { on := 15, ground := Go.Ground.data }, { on := 11, ground := Go.Ground.guard }], guard := some (11, true) }) (v := .pointer (some ⟨R8, 8, none⟩)) rfl (by kernel_rfl) (by kernel_rfl) (by kernel_rfl) (fun _ _ _ h => h) (Or.inl ⟨by rfl, fun w hSw => by (try dsimp only at hSw); go_simp⟩) hS1 ?_
          simp only [Act.put, List.setIfInBounds_toArray, List.set_cons_zero, List.set_cons_succ]
          refine wpAnyH_ready (rs := [17, 19]) (by kernel_rfl) (by simp) (AllReadyH.cons (o := { dst := some 75, op := Go.Op.load 35 (Go.Operand.tmp 74), type := 35, pos := "law.go:30", after := #[{ on := 16, ground := Go.Ground.data }, { on := 11, ground := Go.Ground.guard }], guard := some (11, true) }) rfl (fun K hK => ?_) (AllReadyH.cons (o := { dst := some 77, op := Go.Op.call { callee := Go.Callee.value (Go.Operand.func 25), args := #[Go.Operand.tmp 76], argTypes := #[48] }, type := 35, pos := "law.go:30", after := #[{ on := 18, ground := Go.Ground.data }, { on := 15, ground := Go.Ground.chain }, { on := 11, ground := Go.Ground.guard }], guard := some (11, true) }) rfl (fun K hK => ?_) AllReadyH.nil))
          · go_simp
            refine hK.out _ _ awb.held (fun hS1 => ?_)
            (try simp only [Act.put, List.setIfInBounds_toArray, List.set_cons_zero, List.set_cons_succ])
            clear hK K r0
            refine wpAnyH_ready (rs := [19]) (by kernel_rfl) (by simp) (AllReadyH.cons (o := { dst := some 77, op := Go.Op.call { callee := Go.Callee.value (Go.Operand.func 25), args := #[Go.Operand.tmp 76], argTypes := #[48] }, type := 35, pos := "law.go:30", after := #[{ on := 18, ground := Go.Ground.data }, { on := 15, ground := Go.Ground.chain }, { on := 11, ground := Go.Ground.guard }], guard := some (11, true) }) rfl (fun K hK => ?_) AllReadyH.nil)
            go_simp
            go_at_call 25
            with_reducible refine (c25b _).mono ?_
            rintro e w10 ⟨rfl, b⟩
            (try simp only [])
            replace awb := awb.below b
            refine hK.out _ _ awb.held (fun hS1 => ?_)
            (try simp only [Act.put, List.setIfInBounds_toArray, List.set_cons_zero, List.set_cons_succ])
            clear hK K
            refine wpAnyH_take (i := 20) (oi := { dst := some 78, op := Go.Op.binOp Go.BinOp.eql 35 (Go.Operand.tmp 75) (Go.Operand.tmp 77) 35, type := 4, pos := "law.go:30", after := #[{ on := 17, ground := Go.Ground.data }, { on := 19, ground := Go.Ground.data }, { on := 11, ground := Go.Ground.guard }], guard := some (11, true) }) (v := .bool true) rfl (by kernel_rfl) (by kernel_rfl) (by kernel_rfl) (fun _ _ _ h => h) (Or.inl ⟨by rfl, fun w hSw => by (try dsimp only at hSw); go_simp⟩) hS1 ?_
            simp only [Act.put, List.setIfInBounds_toArray, List.set_cons_zero, List.set_cons_succ]
            refine wpAnyH_take (i := 21) (oi := { dst := some 79, op := Go.Op.pick (Go.Operand.tmp 69) (Go.Operand.tmp 78) (Go.Operand.const (Go.Value.bool false)), type := 4, pos := "law.go:30", after := #[{ on := 11, ground := Go.Ground.data }, { on := 20, ground := Go.Ground.data }], guard := none }) (v := .bool true) rfl (by kernel_rfl) (by kernel_rfl) (by kernel_rfl) (fun _ _ _ h => h) (Or.inl ⟨by rfl, fun w hSw => by (try dsimp only at hSw); go_simp⟩) hS1 ?_
            simp only [Act.put, List.setIfInBounds_toArray, List.set_cons_zero, List.set_cons_succ]
            refine wpAnyH_take (i := 22) (oi := { dst := some 0, op := Go.Op.assign (Go.Operand.tmp 79), type := 4, pos := "law.go:30", after := #[{ on := 21, ground := Go.Ground.data }, { on := 19, ground := Go.Ground.chain }, { on := 0, ground := Go.Ground.phase }, { on := 1, ground := Go.Ground.phase }, { on := 2, ground := Go.Ground.phase }, { on := 3, ground := Go.Ground.phase }, { on := 4, ground := Go.Ground.phase }, { on := 5, ground := Go.Ground.phase }, { on := 6, ground := Go.Ground.phase }, { on := 7, ground := Go.Ground.phase }, { on := 8, ground := Go.Ground.phase }, { on := 9, ground := Go.Ground.phase }, { on := 10, ground := Go.Ground.phase }, { on := 11, ground := Go.Ground.phase }, { on := 12, ground := Go.Ground.phase }, { on := 13, ground := Go.Ground.phase }, { on := 14, ground := Go.Ground.phase }, { on := 15, ground := Go.Ground.phase }, { on := 16, ground := Go.Ground.phase }, { on := 17, ground := Go.Ground.phase }, { on := 18, ground := Go.Ground.phase }, { on := 19, ground := Go.Ground.phase }, { on := 20, ground := Go.Ground.phase }, { on := 21, ground := Go.Ground.phase }], guard := none }) (v := .bool true) rfl (by kernel_rfl) (by kernel_rfl) (by kernel_rfl) (fun _ _ _ h => h) (Or.inl ⟨by rfl, fun w hSw => by (try dsimp only at hSw); go_simp⟩) hS1 ?_
            simp only [Act.put, List.setIfInBounds_toArray, List.set_cons_zero]
            refine wpAnyH_done (by kernel_rfl) ?_ _
            clear hS1
            go_wp2
            go_ret
            exact ⟨rfl, awb.ds.bel⟩
          · go_simp
            go_at_call 25
            with_reducible refine (c25b _).mono ?_
            rintro e w10 ⟨rfl, b⟩
            (try simp only [])
            replace awb := awb.below b
            have hR10 := words_below hR9 b
            clear r0
            have r0 : w10.cell? ⟨R8, 8, none⟩ = some (.int .u64 65536) := Mm.words_at hR10 8 (by decide)
            refine hK.out _ _ awb.held (fun hS1 => ?_)
            (try simp only [Act.put, List.setIfInBounds_toArray, List.set_cons_zero, List.set_cons_succ])
            clear hK K
            refine wpAnyH_ready (rs := [17]) (by kernel_rfl) (by simp) (AllReadyH.cons (o := { dst := some 75, op := Go.Op.load 35 (Go.Operand.tmp 74), type := 35, pos := "law.go:30", after := #[{ on := 16, ground := Go.Ground.data }, { on := 11, ground := Go.Ground.guard }], guard := some (11, true) }) rfl (fun K hK => ?_) AllReadyH.nil)
            go_simp
            refine hK.out _ _ awb.held (fun hS1 => ?_)
            (try simp only [Act.put, List.setIfInBounds_toArray, List.set_cons_zero, List.set_cons_succ])
            clear hK K r0
            refine wpAnyH_take (i := 20) (oi := { dst := some 78, op := Go.Op.binOp Go.BinOp.eql 35 (Go.Operand.tmp 75) (Go.Operand.tmp 77) 35, type := 4, pos := "law.go:30", after := #[{ on := 17, ground := Go.Ground.data }, { on := 19, ground := Go.Ground.data }, { on := 11, ground := Go.Ground.guard }], guard := some (11, true) }) (v := .bool true) rfl (by kernel_rfl) (by kernel_rfl) (by kernel_rfl) (fun _ _ _ h => h) (Or.inl ⟨by rfl, fun w hSw => by (try dsimp only at hSw); go_simp⟩) hS1 ?_
            simp only [Act.put, List.setIfInBounds_toArray, List.set_cons_zero, List.set_cons_succ]
            refine wpAnyH_take (i := 21) (oi := { dst := some 79, op := Go.Op.pick (Go.Operand.tmp 69) (Go.Operand.tmp 78) (Go.Operand.const (Go.Value.bool false)), type := 4, pos := "law.go:30", after := #[{ on := 11, ground := Go.Ground.data }, { on := 20, ground := Go.Ground.data }], guard := none }) (v := .bool true) rfl (by kernel_rfl) (by kernel_rfl) (by kernel_rfl) (fun _ _ _ h => h) (Or.inl ⟨by rfl, fun w hSw => by (try dsimp only at hSw); go_simp⟩) hS1 ?_
            simp only [Act.put, List.setIfInBounds_toArray, List.set_cons_zero, List.set_cons_succ]
            refine wpAnyH_take (i := 22) (oi := { dst := some 0, op := Go.Op.assign (Go.Operand.tmp 79), type := 4, pos := "law.go:30", after := #[{ on := 21, ground := Go.Ground.data }, { on := 19, ground := Go.Ground.chain }, { on := 0, ground := Go.Ground.phase }, { on := 1, ground := Go.Ground.phase }, { on := 2, ground := Go.Ground.phase }, { on := 3, ground := Go.Ground.phase }, { on := 4, ground := Go.Ground.phase }, { on := 5, ground := Go.Ground.phase }, { on := 6, ground := Go.Ground.phase }, { on := 7, ground := Go.Ground.phase }, { on := 8, ground := Go.Ground.phase }, { on := 9, ground := Go.Ground.phase }, { on := 10, ground := Go.Ground.phase }, { on := 11, ground := Go.Ground.phase }, { on := 12, ground := Go.Ground.phase }, { on := 13, ground := Go.Ground.phase }, { on := 14, ground := Go.Ground.phase }, { on := 15, ground := Go.Ground.phase }, { on := 16, ground := Go.Ground.phase }, { on := 17, ground := Go.Ground.phase }, { on := 18, ground := Go.Ground.phase }, { on := 19, ground := Go.Ground.phase }, { on := 20, ground := Go.Ground.phase }, { on := 21, ground := Go.Ground.phase }], guard := none }) (v := .bool true) rfl (by kernel_rfl) (by kernel_rfl) (by kernel_rfl) (fun _ _ _ h => h) (Or.inl ⟨by rfl, fun w hSw => by (try dsimp only at hSw); go_simp⟩) hS1 ?_
            simp only [Act.put, List.setIfInBounds_toArray, List.set_cons_zero]
            refine wpAnyH_done (by kernel_rfl) ?_ _
            clear hS1
            go_wp2
            go_ret
            exact ⟨rfl, awb.ds.bel⟩
        · rw [decide_eq_false h4] at c26
          have hn20 : (n : Int) < 20 := by omega
          go_wp2_with (go_at_call 26; refine c26.mono ?_; rintro e w9 ⟨rfl, awb⟩)
          go_roundw
          case rel => exact ⟨n + 1, by omega, by go_num, awb⟩
          case measure => simp [intOf]; omega
    · rw [decide_eq_false h7] at c20
      have hn20 : (n : Int) < 20 := by omega
      go_wp2_with (go_at_call 20; refine c20.mono ?_; rintro e w5 ⟨rfl, aw⟩)
      go_roundw
      case rel => exact ⟨n + 1, by omega, by go_num, aw⟩
      case measure => simp [intOf]; omega

end Go.Proofs.YtjbjijkkmlehgaaDoor
