/- The ways through the law MemPlays. -/
import Derived.Test.YteeocnknocoefabCopiesWalk
import Derived.Deep.Cut
import Derived.Deep.CutBlock
namespace Go.Proofs.Yteeocnknocoefab
open Go.RowKit

def IsLast (w : World) (L : Nat) (k a p q : Int) : Prop := w.heap[L]? = some (.cells #[.int .i64 k, .int .i64 a, .int .u64 p, .int .u64 q] 29 (0, 0))

def IsAct (w : World) (B : Nat) (k a p q : Int) : Prop := w.heap[B]? = some (.cells #[.int .i64 k, .int .i64 a, .int .u64 p, .int .u64 q] 31 (0, 0))

def updCell (o : Nat) (v : Value) : Obj → Obj
  | .cells c e f => .cells (c.setIfInBounds o v) e f
  | x => x

theorem heap_setCell_get (w : World) (b o : Nat) (v : Value) (b' : Nat) : (w.setCell ⟨b, o, none⟩ v).heap[b']? = if b' = b then (w.heap[b']?).map (updCell o v) else w.heap[b']? := by
  by_cases h : b' = b
  · subst h
    rw [if_pos rfl]
    show (w.heap.modify b' _)[b']? = _
    rw [Array.getElem?_modify, if_pos rfl]
    rfl
  · rw [if_neg h]
    exact Below.heap_setCell _ _ _ _ h

section
variable {w : World} {B : Nat} {k a p q : Int}
theorem IsAct.c0 (h : IsAct w B k a p q) : w.cell? ⟨B, 0, none⟩ = some (.int .i64 k) := by simp [World.cell?, show w.heap[B]? = _ from h]
theorem IsAct.c1 (h : IsAct w B k a p q) : w.cell? ⟨B, 1, none⟩ = some (.int .i64 a) := by simp [World.cell?, show w.heap[B]? = _ from h]
theorem IsAct.c2 (h : IsAct w B k a p q) : w.cell? ⟨B, 2, none⟩ = some (.int .u64 p) := by simp [World.cell?, show w.heap[B]? = _ from h]
theorem IsAct.c3 (h : IsAct w B k a p q) : w.cell? ⟨B, 3, none⟩ = some (.int .u64 q) := by simp [World.cell?, show w.heap[B]? = _ from h]
theorem IsLast.c0 (h : IsLast w B k a p q) : w.cell? ⟨B, 0, none⟩ = some (.int .i64 k) := by simp [World.cell?, show w.heap[B]? = _ from h]
theorem IsLast.c1 (h : IsLast w B k a p q) : w.cell? ⟨B, 1, none⟩ = some (.int .i64 a) := by simp [World.cell?, show w.heap[B]? = _ from h]
theorem IsLast.c2 (h : IsLast w B k a p q) : w.cell? ⟨B, 2, none⟩ = some (.int .u64 p) := by simp [World.cell?, show w.heap[B]? = _ from h]
theorem IsLast.c3 (h : IsLast w B k a p q) : w.cell? ⟨B, 3, none⟩ = some (.int .u64 q) := by simp [World.cell?, show w.heap[B]? = _ from h]
theorem IsLast.free (h : IsLast w B k a p q) (i : Nat) : w.frozen? ⟨B, i, none⟩ = false := by simp [World.frozen?, show w.heap[B]? = _ from h]
theorem IsLast.other {w' : World} {M G : Nat} (h : IsLast w B k a p q) (ho : Only M G w w') (h1 : B ≠ M) (h2 : B ≠ G) : IsLast w' B k a p q := by
  show w'.heap[B]? = _
  rw [ho.block B (lt_of_block (show w.heap[B]? = _ from h)) h1 h2]; exact h
theorem IsLast.below {w' : World} (h : IsLast w B k a p q) (hb : Below w.heap.size w w') : IsLast w' B k a p q := by
  show w'.heap[B]? = _
  rw [hb.block B (lt_of_block (show w.heap[B]? = _ from h))]; exact h
end

theorem size_n {M G n : Nat} {s : MS} {w : World} (h : IsMem w M G s) (hn : s.X.length = n) : Calls Try.prog 15 #[.pointer (some ⟨M, 0, none⟩)] w fun e w' => e = .returned (.int .i64 (n : Nat)) ∧ w = w' := by
  subst hn; exact size_any h

/-- The act is done in a round: what is known behind it. -/
theorem does_round {w wr : World} {M G Wd L : Nat} {s s' : MS} {x : Nat} {y : Bool} (hm : IsMem wr M G s) (hwd : IsWords wr Wd s.X) (hls : IsLast wr L s.k s.a s.p s.q) (hbel : Below w.heap.size w wr)
    (D : M ≠ Wd ∧ M ≠ L ∧ G ≠ Wd ∧ G ≠ L ∧ Wd ≠ L ∧ w.heap.size ≤ M ∧ w.heap.size ≤ G ∧ w.heap.size ≤ Wd ∧ w.heap.size ≤ L)
    (kd a : Int) (A B : Nat) (hA : A < 18446744073709551616) (hB : B < 18446744073709551616) (ht : 0 ≤ s.t ∧ s.t < 1000000) (hs : actS s kd a A B = (s', x, y)) :
    Calls Try.prog 10 #[.pointer (some ⟨M, 0, none⟩), .agg #[.int .i64 kd, .int .i64 a, .int .u64 A, .int .u64 B]] (wr.alloc (.cells #[.int .i64 kd, .int .i64 a, .int .u64 A, .int .u64 B] 31)) fun e w' =>
      e = .returned (.tuple #[.int .u64 (x : Nat), .bool y]) ∧ IsMem w' M G s' ∧ IsWords w' Wd s.X ∧ IsLast w' L s.k s.a s.p s.q ∧ IsAct w' wr.heap.size kd a A B ∧ Below w.heap.size w w' := by
  have bA := (Below.refl wr.heap.size wr).alloc (Nat.le_refl _) (.cells #[.int .i64 kd, .int .i64 a, .int .u64 A, .int .u64 B] 31)
  have lM := hm.M_lt
  have lG := hm.G_lt
  have hact : IsAct (wr.alloc (.cells #[.int .i64 kd, .int .i64 a, .int .u64 A, .int .u64 B] 31)) wr.heap.size kd a A B := heap_new _ _
  refine (does_s (hm.below bA) kd a A B hA hB ⟨ht.1, by omega⟩ hs).mono fun e w' ⟨h1, h2, h3⟩ => ⟨h1, h2, (hwd.below bA).other h3 (by omega) (by omega), (hls.below bA).other h3 (by omega) (by omega), ?_, ?_⟩
  · show w'.heap[wr.heap.size]? = _
    rw [h3.block _ (lt_of_block (show (wr.alloc _).heap[wr.heap.size]? = _ from hact)) (by omega) (by omega)]
    exact hact
  · exact h3.below (hbel.trans (bA.mono hbel.size)) (by omega) (by omega) (Nat.le_refl _)

theorem region_below {P : Program} {id : Nat} {Q : Exit → Act → World → Prop} {a : Act} {w : World} {l : List Oper} (hm : P.follows .mixedOrders = true) (hB : Region.lexB .any l.toArray = true)
    (h : wpQuiet P l.toArray (fun w' => Below w.heap.size w w') (fun a' => ∀ w', Below w.heap.size w w' → Q .normal a' w') l a) : (Code.region id l.toArray true).wp P Q a w :=
  wp_region_quiet (C := fun w' => Below w.heap.size w w') hm hB ⟨rfl, rfl, rfl, Nat.le_refl _, fun _ _ => rfl⟩ (by simpa using h)

/-- All that is known of the world in a round: the memory, the words beside it, the touch that is expected, the act. -/
structure Rd (w wr : World) (M G Wd L B : Nat) (s : MS) (X : List Nat) (k a p q : Int) (kd i : Int) (A Q : Nat) : Prop where
  mem : IsMem wr M G s
  wd : IsWords wr Wd X
  last : IsLast wr L k a p q
  act : IsAct wr B kd i A Q
  bel : Below w.heap.size w wr

theorem Rd.setL {w wr : World} {M G Wd L B : Nat} {s : MS} {X : List Nat} {k a p q kd i : Int} {A Q : Nat} (h : Rd w wr M G Wd L B s X k a p q kd i A Q) (hM : M ≠ L) (hG : G ≠ L) (hW : Wd ≠ L) (hB : B ≠ L) (hL : w.heap.size ≤ L) (o : Nat) (v : Value) (k' a' p' q' : Int)
    (hv : #[Value.int .i64 k, .int .i64 a, .int .u64 p, .int .u64 q].setIfInBounds o v = #[.int .i64 k', .int .i64 a', .int .u64 p', .int .u64 q']) :
    Rd w (wr.setCell ⟨L, o, none⟩ v) M G Wd L B s X k' a' p' q' kd i A Q := by
  have ho : Only L L wr (wr.setCell ⟨L, o, none⟩ v) := (Only.refl L L wr).setCell (.inl rfl) v
  refine ⟨h.mem.other ho hM hM hG hG, h.wd.other ho hW hW, ?_, ?_, ho.below h.bel hL hL (Nat.le_refl _)⟩
  · show (wr.setCell ⟨L, o, none⟩ v).heap[L]? = _
    rw [heap_setCell_at (show wr.heap[L]? = _ from h.last), hv]
  · show (wr.setCell ⟨L, o, none⟩ v).heap[B]? = _
    rw [Below.heap_setCell _ _ _ _ hB]
    exact h.act

theorem Rd.setW {w wr : World} {M G Wd L B : Nat} {s : MS} {X : List Nat} {k a p q kd i : Int} {A Q : Nat} (h : Rd w wr M G Wd L B s X k a p q kd i A Q) (hM : M ≠ Wd) (hG : G ≠ Wd) (hW : Wd ≠ L) (hB : B ≠ Wd) (hL : w.heap.size ≤ Wd) (o v : Nat) :
    Rd w (wr.setCell ⟨Wd, o, none⟩ (.int .u64 (v : Nat))) M G Wd L B s (X.set o v) k a p q kd i A Q := by
  have ho : Only Wd Wd wr (wr.setCell ⟨Wd, o, none⟩ (.int .u64 (v : Nat))) := (Only.refl Wd Wd wr).setCell (.inl rfl) _
  refine ⟨h.mem.other ho hM hM hG hG, words_set h.wd o v, h.last.other ho (Ne.symm hW) (Ne.symm hW), ?_, ho.below h.bel hL hL (Nat.le_refl _)⟩
  show (wr.setCell ⟨Wd, o, none⟩ (.int .u64 (v : Nat))).heap[B]? = _
  rw [Below.heap_setCell _ _ _ _ hB]
  exact h.act

set_option maxRecDepth 100000 in
set_option maxHeartbeats 1000000 in
theorem plays_long (n : Int) (ad : Option Addr) (len cap : Nat) (h : 300 < len) (w : World) :
    Calls Try.prog 3 #[.int .i64 n, .slice ad len cap] w fun e w' => e = .returned (.bool true) ∧ Below w.heap.size w w' := by
  go_enter Try.func3, Try.ntmps3
  go_wp2_with (go_at_call 8; refine (awake_any _).mono ?_; rintro e w' ⟨rfl, hb⟩)
  go_ret
  exact ⟨rfl, hb⟩

set_option maxRecDepth 100000 in
set_option maxHeartbeats 1000000 in
theorem plays_mid (n : Int) (ad : Option Addr) (len cap : Nat) (h : len ≤ 300) (h1 : 200 < n) (h2 : n ≤ 65536) (w : World) :
    Calls Try.prog 3 #[.int .i64 n, .slice ad len cap] w fun e w' => e = .returned (.bool true) ∧ Below w.heap.size w w' := by
  go_enter Try.func3, Try.ntmps3
  go_wp2_with (go_at_call 8; refine (awake_any _).mono ?_; rintro e w' ⟨rfl, hb⟩)
  go_ret
  exact ⟨rfl, hb⟩

set_option maxRecDepth 100000 in
set_option maxHeartbeats 1000000 in
theorem plays_none (n : Int) (ad : Option Addr) (len cap : Nat) (h : len ≤ 300) (h1 : n < 0 ∨ 65536 < n) (w : World) :
    Calls Try.prog 3 #[.int .i64 n, .slice ad len cap] w fun e w' => e = .returned (.bool true) ∧ Below w.heap.size w w' := by
  have c := fun w => new_no n h1 w
  rcases h1 with h1 | h1
  all_goals
    go_enter Try.func3, Try.ntmps3
    go_wp2_with (first
      | (go_at_call 8; with_reducible refine (awake_any w).mono ?_; rintro e w1 ⟨rfl, hb⟩)
      | (go_at_call 9; refine (c _).mono ?_; rintro e w' ⟨rfl, rfl⟩)
      | (go_at_call 8; with_reducible refine (awake_any w1).mono ?_; rintro e w2 ⟨rfl, hb2⟩))
    go_ret
    exact ⟨rfl, hb.trans (hb2.mono hb.size)⟩

set_option maxRecDepth 100000 in
set_option maxHeartbeats 8000000 in
theorem plays_main {w : World} (n : Nat) (hn : n ≤ 200) {ad : Option Addr} {len cap : Nat} (h1 : IsActs w ad len) (hl : len ≤ 300) :
    Calls Try.prog 3 #[.int .i64 n, .slice ad len cap] w fun e w' => e = .returned (.bool true) ∧ Below w.heap.size w w' := by
  obtain ⟨i0, hi, hz0, hz1, hz2⟩ := info_parts Try.info27
  go_enter Try.func3, Try.ntmps3
  go_wp2_with (first
    | (go_at_call 8; with_reducible refine (awake_any w).mono ?_; rintro e w1 ⟨rfl, hb1⟩)
    | (go_at_call 9; with_reducible refine (new_any n (by omega) w1).mono ?_; rintro e w2 ⟨M, G, rfl, hm, hM, hG, hb2⟩)
    | (at_make; refine wpList_make_full w2 rfl _ _ 26 rfl w2.heap.size 27 i0 (.int .u64 0) 1 Try.underlying26 hi hz0 hz1 .i64 .i64 n n n rfl rfl rfl rfl ?c1 ?c2 (Nat.le_refl _) ?_))
  case c1 => rw [hz2]; omega
  case c2 => unfold maxLen; omega
  · intro w3 hown hgrow
    have hr := made_words hown rfl
    have hb3 := of_grown hgrow
    clear hown hgrow
    go_wp2
    have lM := hm.M_lt
    have lG := hm.G_lt
    have lW : w2.heap.size < w3.heap.size := lt_of_block (show w3.heap[w2.heap.size]? = _ from hr)
    have b12 := hb1.trans (hb2.mono hb1.size)
    have b13 := b12.trans (hb3.mono b12.size)
    have s1 := hb1.size
    have s12 := b12.size
    have D : Hid (M ≠ w2.heap.size ∧ M ≠ w3.heap.size ∧ G ≠ w2.heap.size ∧ G ≠ w3.heap.size ∧ w2.heap.size ≠ w3.heap.size ∧ w.heap.size ≤ M ∧ w.heap.size ≤ G ∧ w.heap.size ≤ w2.heap.size ∧ w.heap.size ≤ w3.heap.size) := ⟨by omega, by omega, by omega, by omega, by omega, by omega, by omega, by omega, by omega⟩
    have bA : ∀ o, Below w3.heap.size w3 (w3.alloc o) := fun o => (Below.refl _ _).alloc (Nat.le_refl _) o
    have hm4 : ∀ o, IsMem (w3.alloc o) M G (zeroMS (List.replicate n 0)) := fun o => (hm.below hb3).below (bA o)
    have hr4 : ∀ o, IsWords (w3.alloc o) w2.heap.size (List.replicate n 0) := fun o => hr.below (bA o)
    have b14 : ∀ o, Below w.heap.size w (w3.alloc o) := fun o => b13.trans ((bA o).mono b13.size)
    have hL : IsLast (w3.alloc (.cells #[.int .i64 0, .int .i64 0, .int .u64 0, .int .u64 0] 29)) w3.heap.size 0 0 0 0 := heap_new _ _
    have st0 : St (zeroMS (List.replicate n 0)) n 0 := ⟨by simp [zeroMS], Int.le_refl _, Int.le_refl _⟩
    clear hm lM lG lW hr hb1 hb2 hb3 hM hG b12 b13 s1 s12 bA
    generalize hWd : w2.heap.size = Wd at *
    generalize hLd : w3.heap.size = L at *
    go_loopw [7, 9] (fun t i wr => ∃ k : Nat, k ≤ len ∧ i = .int .i64 k ∧ ∃ s, t = .int .i64 s.t ∧ IsMem wr M G s ∧ IsWords wr Wd s.X ∧ IsLast wr L s.k s.a s.p s.q ∧ St s n k ∧ Below w.heap.size w wr) (fun _ i _ => len - (intOf i).toNat)
    case atStart => exact ⟨0, Nat.zero_le _, rfl, zeroMS (List.replicate n 0), rfl, hm4 _, hr4 _, hL, st0, b14 _⟩
    case round =>
      obtain ⟨k, hk, rfl, s, rfl, hm, hwd, hls, st, hbel⟩ := hrel
      clear hm4 hr4 b14 hL st0
      by_cases hkl : k < len
      · rcases h1 with h0 | ⟨b, off, K, A, P, Q, rfl, h⟩
        · omega
        have H := h.below hbel
        have g0 := H.k k hkl
        have g1 := H.a k hkl
        have g2 := H.p k hkl
        have g3 := H.q k hkl
        have bp := H.bp k hkl
        have bq := H.bq k hkl
        have hbx : b ≠ M ∧ b ≠ G := by have := D.out; have := h.lt; omega
        clear h
        have lW : Wd < wr.heap.size := lt_of_block (show wr.heap[Wd]? = _ from hwd)
        have lL : L < wr.heap.size := lt_of_block (show wr.heap[L]? = _ from hls)
        have lM := hm.M_lt
        have lG := hm.G_lt
        have ht : 0 ≤ s.t ∧ s.t < 1000000 := ⟨st.t0, by have := st.t1; omega⟩
        have n1 : L ≠ wr.heap.size := by omega
        have n2 : wr.heap.size ≠ L := by omega
        have n3 : Wd ≠ wr.heap.size := by omega
        have n4 : wr.heap.size ≠ Wd := by omega
        have n5 : Wd ≠ L := D.out.2.2.2.2.1
        have n6 : L ≠ Wd := Ne.symm n5
        generalize K k = kd at *
        generalize A k = a at *
        generalize P k = p at *
        generalize Q k = q at *
        cases hr : inR s a with
        | false =>
          have e : actS s kd a p q = (s, 0, false) := by simp [actS, hr]
          have st' := st.act e
          have c := does_round hm hwd hls hbel D.out kd a p q bp bq ht e
          have hr' : ¬ (0 ≤ a ∧ a < (n : Int)) := by
            intro h
            have := (inR_iff s a).2 (by rw [st.len]; exact h)
            rw [hr] at this
            cases this
          clear e hr hm hwd hls hbel
          by_cases ha : 0 ≤ a
          · have ha2 : ¬ a < (n : Int) := by omega
            clear hr'
            go_wp2_with fail
            with_reducible refine c.mono ?_
            rintro e w7 ⟨rfl, hm5, hwd5, hls5, hac5, hb5⟩
            have R7 : Hid (Rd w w7 M G Wd L wr.heap.size _ _ _ _ _ _ _ _ _ _) := ⟨hm5, hwd5, hls5, hac5, hb5⟩
            clear c hm5 hwd5 hls5 hac5 hb5
            have u0 := R7.out.act.c0
            have u1 := R7.out.act.c1
            have u2 := R7.out.act.c2
            have u3 := R7.out.act.c3
            have v0 := R7.out.last.c0
            have v1 := R7.out.last.c1
            have v2 := R7.out.last.c2
            have v3 := R7.out.last.c3
            have vf := R7.out.last.free
            go_upto_region 36 with fail
            clear u0 u1 u2 u3 v0 v1 v2 v3 vf
            have e1 : ∀ w', Below w7.heap.size w7 w' → Calls Try.prog 11 #[.pointer (some ⟨M, 0, none⟩)] w' fun e w'' => e = .returned (.int .i64 s.t) ∧ Below w7.heap.size w7 w'' := fun w' hw' =>
              (touches_any (R7.out.mem.below hw')).mono fun _ _ ⟨h1, h2⟩ => ⟨h1, h2 ▸ hw'⟩
            have e2 : ∀ w', Below w7.heap.size w7 w' → Calls Try.prog 12 #[.pointer (some ⟨M, 0, none⟩)] w' fun e w'' => e = .returned (.agg #[.int .i64 s.k, .int .i64 s.a, .int .u64 s.p, .int .u64 s.q]) ∧ Below w7.heap.size w7 w'' := fun w' hw' =>
              (last_s (k := s.k) (a := s.a) (p := s.p) (q := s.q) (R7.out.mem.below hw') ⟨rfl, rfl, rfl, rfl⟩).mono fun _ _ ⟨h1, h2⟩ => ⟨h1, hw'.trans (h2.mono hw'.size)⟩
            have e3 : ∀ w', Below w7.heap.size w7 w' → w'.cell? ⟨L, 0, none⟩ = some (.int .i64 s.k) ∧ w'.cell? ⟨L, 1, none⟩ = some (.int .i64 s.a) ∧ w'.cell? ⟨L, 2, none⟩ = some (.int .u64 s.p) ∧ w'.cell? ⟨L, 3, none⟩ = some (.int .u64 s.q) := fun w' hw' =>
              ⟨(R7.out.last.below hw').c0, (R7.out.last.below hw').c1, (R7.out.last.below hw').c2, (R7.out.last.below hw').c3⟩
            refine region_below (by kernel_rfl) (by kernel_rfl) ?_
            repeat (first | go_big_quiet_skip | (go_big_quiet_want; go_big_quiet_op; first | go_big_quiet_on | (refine ⟨_, fun _ _ => rfl, ?_⟩; go_big_quiet_on) | (refine ⟨_, e1, ?_⟩; go_big_quiet_on) | (refine ⟨_, e2, ?_⟩; go_big_quiet_on) | (refine ⟨.agg #[.int .i64 s.k, .int .i64 s.a, .int .u64 s.p, .int .u64 s.q], fun w' hw' => by obtain ⟨l0, l1, l2, l3⟩ := e3 w' hw'; simp [l0, l1, l2, l3, Result.andThen], ?_⟩; go_big_quiet_on)))
            refine wpQuiet_nil ?_
            intro w8 hb8
            clear e1 e2 e3
            go_wp2
            go_roundw
            case rel =>
              have hbel8 := R7.out.bel
              exact ⟨k + 1, by omega, by go_num, s, rfl, R7.out.mem.below hb8, R7.out.wd.below hb8, R7.out.last.below hb8, st', hbel8.trans (hb8.mono hbel8.size)⟩
            case measure => simp [intOf]; omega
          · clear hr'
            go_wp2_with fail
            with_reducible refine c.mono ?_
            rintro e w7 ⟨rfl, hm5, hwd5, hls5, hac5, hb5⟩
            have R7 : Hid (Rd w w7 M G Wd L wr.heap.size _ _ _ _ _ _ _ _ _ _) := ⟨hm5, hwd5, hls5, hac5, hb5⟩
            clear c hm5 hwd5 hls5 hac5 hb5
            have u0 := R7.out.act.c0
            have u1 := R7.out.act.c1
            have u2 := R7.out.act.c2
            have u3 := R7.out.act.c3
            have v0 := R7.out.last.c0
            have v1 := R7.out.last.c1
            have v2 := R7.out.last.c2
            have v3 := R7.out.last.c3
            have vf := R7.out.last.free
            go_upto_region 36 with fail
            clear u0 u1 u2 u3 v0 v1 v2 v3 vf
            have e1 : ∀ w', Below w7.heap.size w7 w' → Calls Try.prog 11 #[.pointer (some ⟨M, 0, none⟩)] w' fun e w'' => e = .returned (.int .i64 s.t) ∧ Below w7.heap.size w7 w'' := fun w' hw' =>
              (touches_any (R7.out.mem.below hw')).mono fun _ _ ⟨h1, h2⟩ => ⟨h1, h2 ▸ hw'⟩
            have e2 : ∀ w', Below w7.heap.size w7 w' → Calls Try.prog 12 #[.pointer (some ⟨M, 0, none⟩)] w' fun e w'' => e = .returned (.agg #[.int .i64 s.k, .int .i64 s.a, .int .u64 s.p, .int .u64 s.q]) ∧ Below w7.heap.size w7 w'' := fun w' hw' =>
              (last_s (k := s.k) (a := s.a) (p := s.p) (q := s.q) (R7.out.mem.below hw') ⟨rfl, rfl, rfl, rfl⟩).mono fun _ _ ⟨h1, h2⟩ => ⟨h1, hw'.trans (h2.mono hw'.size)⟩
            have e3 : ∀ w', Below w7.heap.size w7 w' → w'.cell? ⟨L, 0, none⟩ = some (.int .i64 s.k) ∧ w'.cell? ⟨L, 1, none⟩ = some (.int .i64 s.a) ∧ w'.cell? ⟨L, 2, none⟩ = some (.int .u64 s.p) ∧ w'.cell? ⟨L, 3, none⟩ = some (.int .u64 s.q) := fun w' hw' =>
              ⟨(R7.out.last.below hw').c0, (R7.out.last.below hw').c1, (R7.out.last.below hw').c2, (R7.out.last.below hw').c3⟩
            refine region_below (by kernel_rfl) (by kernel_rfl) ?_
            repeat (first | go_big_quiet_skip | (go_big_quiet_want; go_big_quiet_op; first | go_big_quiet_on | (refine ⟨_, fun _ _ => rfl, ?_⟩; go_big_quiet_on) | (refine ⟨_, e1, ?_⟩; go_big_quiet_on) | (refine ⟨_, e2, ?_⟩; go_big_quiet_on) | (refine ⟨.agg #[.int .i64 s.k, .int .i64 s.a, .int .u64 s.p, .int .u64 s.q], fun w' hw' => by obtain ⟨l0, l1, l2, l3⟩ := e3 w' hw'; simp [l0, l1, l2, l3, Result.andThen], ?_⟩; go_big_quiet_on)))
            refine wpQuiet_nil ?_
            intro w8 hb8
            clear e1 e2 e3
            go_wp2
            go_roundw
            case rel =>
              have hbel8 := R7.out.bel
              exact ⟨k + 1, by omega, by go_num, s, rfl, R7.out.mem.below hb8, R7.out.wd.below hb8, R7.out.last.below hb8, st', hbel8.trans (hb8.mono hbel8.size)⟩
            case measure => simp [intOf]; omega
        | true =>
          have hr' := (inR_iff s a).1 hr
          rw [st.len] at hr'
          obtain ⟨i, rfl⟩ : ∃ i : Nat, a = (i : Int) := ⟨a.toNat, by omega⟩
          by_cases k0 : kd = 0
          · subst k0
            obtain ⟨x, hX⟩ : ∃ x, s.X.getD i 0 = x := ⟨_, rfl⟩
            have e : actS s 0 i p q = (touched s 1 i x, x, false) := by simp only [actS, hr, Int.toNat_natCast, hX]; simp
            have st' := st.act e
            have c := does_round hm hwd hls hbel D.out 0 i p q bp bq ht e
            have hi : i < s.X.length := by rw [st.len]; omega
            have hin : i < n := by omega
            have HX : Hid (s.X.getD i 0 = x) := hX
            clear e hr hr' hX hm hwd hls hbel
            go_wp2_with fail
            with_reducible refine c.mono ?_
            rintro e w5 ⟨rfl, hm5, hwd5, hls5, hac5, hb5⟩
            have R5 : Hid (Rd w w5 M G Wd L wr.heap.size _ _ _ _ _ _ _ _ _ _) := ⟨hm5, hwd5, hls5, hac5, hb5⟩
            clear c hm5 hwd5 hls5 hac5 hb5
            have u0 := R5.out.act.c0
            have u1 := R5.out.act.c1
            have u2 := R5.out.act.c2
            have u3 := R5.out.act.c3
            have v0 := R5.out.last.c0
            have v1 := R5.out.last.c1
            have v2 := R5.out.last.c2
            have v3 := R5.out.last.c3
            have vf := R5.out.last.free
            have x0 : w5.cell? ⟨Wd, i, none⟩ = some (.int .u64 (x : Nat)) := by rw [← HX.out]; exact words_at R5.out.wd i hi
            have xf := words_free R5.out.wd
            go_upto_region 19 with fail
            have d := D.out
            have r6 := (((R5.out.setL d.2.1 d.2.2.2.1 n5 n2 d.2.2.2.2.2.2.2.2 0 (.int .i64 4) _ _ _ _ rfl).setL d.2.1 d.2.2.2.1 n5 n2 d.2.2.2.2.2.2.2.2 1 (.int .i64 i) _ _ _ _ rfl).setL d.2.1 d.2.2.2.1 n5 n2 d.2.2.2.2.2.2.2.2 2 (.int .u64 x) _ _ _ _ rfl).setL d.2.1 d.2.2.2.1 n5 n2 d.2.2.2.2.2.2.2.2 3 (.int .u64 (IntKind.u64.wrap (x + p))) _ _ _ _ rfl
            have R6 : Hid _ := r6
            clear R5 r6 d u0 u1 u2 u3 v0 v1 v2 v3 vf x0 xf
            generalize ((((w5.setCell ⟨L, 0, none⟩ (.int .i64 4)).setCell ⟨L, 1, none⟩ (.int .i64 i)).setCell ⟨L, 2, none⟩ (.int .u64 x)).setCell ⟨L, 3, none⟩ (.int .u64 (IntKind.u64.wrap (x + p)))) = w6 at R6 ⊢
            have u0 := R6.out.act.c0
            have u1 := R6.out.act.c1
            have u2 := R6.out.act.c2
            have u3 := R6.out.act.c3
            have v0 := R6.out.last.c0
            have v1 := R6.out.last.c1
            have v2 := R6.out.last.c2
            have v3 := R6.out.last.c3
            have vf := R6.out.last.free
            have x0 : w6.cell? ⟨Wd, i, none⟩ = some (.int .u64 (x : Nat)) := by rw [← HX.out]; exact words_at R6.out.wd i hi
            have xf := words_free R6.out.wd
            go_upto_region 36 with fail
            have d := D.out
            have r7 := ((R6.out.setL d.2.1 d.2.2.2.1 n5 n2 d.2.2.2.2.2.2.2.2 0 (.int .i64 1) _ _ _ _ rfl).setL d.2.1 d.2.2.2.1 n5 n2 d.2.2.2.2.2.2.2.2 3 (.int .u64 x) _ _ _ _ rfl).setW d.1 d.2.2.1 n5 n4 d.2.2.2.2.2.2.2.1 i x
            have R7 : Hid _ := r7
            clear R6 r7 d u0 u1 u2 u3 v0 v1 v2 v3 vf x0 xf
            generalize (((w6.setCell ⟨L, 0, none⟩ (.int .i64 1)).setCell ⟨L, 3, none⟩ (.int .u64 x)).setCell ⟨Wd, i, none⟩ (.int .u64 x)) = w7 at R7 ⊢
            have e1 : ∀ w', Below w7.heap.size w7 w' → Calls Try.prog 11 #[.pointer (some ⟨M, 0, none⟩)] w' fun e w'' => e = .returned (.int .i64 (s.t + 1)) ∧ Below w7.heap.size w7 w'' := fun w' hw' =>
              (touches_any (R7.out.mem.below hw')).mono fun _ _ ⟨h1, h2⟩ => ⟨h1, h2 ▸ hw'⟩
            have e2 : ∀ w', Below w7.heap.size w7 w' → Calls Try.prog 12 #[.pointer (some ⟨M, 0, none⟩)] w' fun e w'' => e = .returned (.agg #[.int .i64 1, .int .i64 i, .int .u64 x, .int .u64 x]) ∧ Below w7.heap.size w7 w'' := fun w' hw' =>
              (last_s (k := 1) (a := i) (p := x) (q := x) (R7.out.mem.below hw') ⟨rfl, rfl, by show ((s.X.getD i 0 : Nat) : Int) = x; rw [HX.out], rfl⟩).mono fun _ _ ⟨h1, h2⟩ => ⟨h1, hw'.trans (h2.mono hw'.size)⟩
            have e3 : ∀ w', Below w7.heap.size w7 w' → w'.cell? ⟨L, 0, none⟩ = some (.int .i64 1) ∧ w'.cell? ⟨L, 1, none⟩ = some (.int .i64 i) ∧ w'.cell? ⟨L, 2, none⟩ = some (.int .u64 x) ∧ w'.cell? ⟨L, 3, none⟩ = some (.int .u64 x) := fun w' hw' =>
              ⟨(R7.out.last.below hw').c0, (R7.out.last.below hw').c1, (R7.out.last.below hw').c2, (R7.out.last.below hw').c3⟩
            refine region_below (by kernel_rfl) (by kernel_rfl) ?_
            repeat (first | go_big_quiet_skip | (go_big_quiet_want; go_big_quiet_op; first | go_big_quiet_on | (refine ⟨_, fun _ _ => rfl, ?_⟩; go_big_quiet_on) | (refine ⟨_, e1, ?_⟩; go_big_quiet_on) | (refine ⟨_, e2, ?_⟩; go_big_quiet_on) | (refine ⟨.agg #[.int .i64 1, .int .i64 i, .int .u64 x, .int .u64 x], fun w' hw' => by obtain ⟨l0, l1, l2, l3⟩ := e3 w' hw'; simp [l0, l1, l2, l3, Result.andThen], ?_⟩; go_big_quiet_on)))
            refine wpQuiet_nil ?_
            intro w8 hb8
            clear e1 e2 e3
            go_wp2
            go_roundw
            case rel =>
              have hbel8 := R7.out.bel
              exact ⟨k + 1, by omega, by go_num, touched s 1 i x, rfl, R7.out.mem.below hb8, R7.out.wd.below hb8, by show IsLast w8 L 1 i ((s.X.getD i 0 : Nat) : Int) x; rw [HX.out]; exact R7.out.last.below hb8, st', hbel8.trans (hb8.mono hbel8.size)⟩
            case measure => simp [intOf]; omega
          by_cases k1 : kd = 1
          · subst k1
            clear k0
            obtain ⟨x, hX⟩ : ∃ x, s.X.getD i 0 = x := ⟨_, rfl⟩
            have e : actS s 1 i p q = (touched s 2 i p, 0, true) := by simp only [actS, hr, Int.toNat_natCast, hX]; simp
            have st' := st.act e
            have c := does_round hm hwd hls hbel D.out 1 i p q bp bq ht e
            have hi : i < s.X.length := by rw [st.len]; omega
            have hin : i < n := by omega
            have HX : Hid (s.X.getD i 0 = x) := hX
            clear e hr hr' hX hm hwd hls hbel
            go_wp2_with fail
            with_reducible refine c.mono ?_
            rintro e w5 ⟨rfl, hm5, hwd5, hls5, hac5, hb5⟩
            have R5 : Hid (Rd w w5 M G Wd L wr.heap.size _ _ _ _ _ _ _ _ _ _) := ⟨hm5, hwd5, hls5, hac5, hb5⟩
            clear c hm5 hwd5 hls5 hac5 hb5
            have u0 := R5.out.act.c0
            have u1 := R5.out.act.c1
            have u2 := R5.out.act.c2
            have u3 := R5.out.act.c3
            have v0 := R5.out.last.c0
            have v1 := R5.out.last.c1
            have v2 := R5.out.last.c2
            have v3 := R5.out.last.c3
            have vf := R5.out.last.free
            have x0 : w5.cell? ⟨Wd, i, none⟩ = some (.int .u64 (x : Nat)) := by rw [← HX.out]; exact words_at R5.out.wd i hi
            have xf := words_free R5.out.wd
            go_upto_region 19 with fail
            have d := D.out
            have r6 := (((R5.out.setL d.2.1 d.2.2.2.1 n5 n2 d.2.2.2.2.2.2.2.2 0 (.int .i64 4) _ _ _ _ rfl).setL d.2.1 d.2.2.2.1 n5 n2 d.2.2.2.2.2.2.2.2 1 (.int .i64 i) _ _ _ _ rfl).setL d.2.1 d.2.2.2.1 n5 n2 d.2.2.2.2.2.2.2.2 2 (.int .u64 x) _ _ _ _ rfl).setL d.2.1 d.2.2.2.1 n5 n2 d.2.2.2.2.2.2.2.2 3 (.int .u64 (IntKind.u64.wrap (x + p))) _ _ _ _ rfl
            have R6 : Hid _ := r6
            clear R5 r6 d u0 u1 u2 u3 v0 v1 v2 v3 vf x0 xf
            generalize ((((w5.setCell ⟨L, 0, none⟩ (.int .i64 4)).setCell ⟨L, 1, none⟩ (.int .i64 i)).setCell ⟨L, 2, none⟩ (.int .u64 x)).setCell ⟨L, 3, none⟩ (.int .u64 (IntKind.u64.wrap (x + p)))) = w6 at R6 ⊢
            have u0 := R6.out.act.c0
            have u1 := R6.out.act.c1
            have u2 := R6.out.act.c2
            have u3 := R6.out.act.c3
            have v0 := R6.out.last.c0
            have v1 := R6.out.last.c1
            have v2 := R6.out.last.c2
            have v3 := R6.out.last.c3
            have vf := R6.out.last.free
            have x0 : w6.cell? ⟨Wd, i, none⟩ = some (.int .u64 (x : Nat)) := by rw [← HX.out]; exact words_at R6.out.wd i hi
            have xf := words_free R6.out.wd
            go_upto_region 36 with fail
            have d := D.out
            have r7 := ((R6.out.setL d.2.1 d.2.2.2.1 n5 n2 d.2.2.2.2.2.2.2.2 0 (.int .i64 2) _ _ _ _ rfl).setL d.2.1 d.2.2.2.1 n5 n2 d.2.2.2.2.2.2.2.2 3 (.int .u64 p) _ _ _ _ rfl).setW d.1 d.2.2.1 n5 n4 d.2.2.2.2.2.2.2.1 i p
            have R7 : Hid _ := r7
            clear R6 r7 d u0 u1 u2 u3 v0 v1 v2 v3 vf x0 xf
            generalize (((w6.setCell ⟨L, 0, none⟩ (.int .i64 2)).setCell ⟨L, 3, none⟩ (.int .u64 p)).setCell ⟨Wd, i, none⟩ (.int .u64 p)) = w7 at R7 ⊢
            have e1 : ∀ w', Below w7.heap.size w7 w' → Calls Try.prog 11 #[.pointer (some ⟨M, 0, none⟩)] w' fun e w'' => e = .returned (.int .i64 (s.t + 1)) ∧ Below w7.heap.size w7 w'' := fun w' hw' =>
              (touches_any (R7.out.mem.below hw')).mono fun _ _ ⟨h1, h2⟩ => ⟨h1, h2 ▸ hw'⟩
            have e2 : ∀ w', Below w7.heap.size w7 w' → Calls Try.prog 12 #[.pointer (some ⟨M, 0, none⟩)] w' fun e w'' => e = .returned (.agg #[.int .i64 2, .int .i64 i, .int .u64 x, .int .u64 p]) ∧ Below w7.heap.size w7 w'' := fun w' hw' =>
              (last_s (k := 2) (a := i) (p := x) (q := p) (R7.out.mem.below hw') ⟨rfl, rfl, by show ((s.X.getD i 0 : Nat) : Int) = x; rw [HX.out], rfl⟩).mono fun _ _ ⟨h1, h2⟩ => ⟨h1, hw'.trans (h2.mono hw'.size)⟩
            have e3 : ∀ w', Below w7.heap.size w7 w' → w'.cell? ⟨L, 0, none⟩ = some (.int .i64 2) ∧ w'.cell? ⟨L, 1, none⟩ = some (.int .i64 i) ∧ w'.cell? ⟨L, 2, none⟩ = some (.int .u64 x) ∧ w'.cell? ⟨L, 3, none⟩ = some (.int .u64 p) := fun w' hw' =>
              ⟨(R7.out.last.below hw').c0, (R7.out.last.below hw').c1, (R7.out.last.below hw').c2, (R7.out.last.below hw').c3⟩
            refine region_below (by kernel_rfl) (by kernel_rfl) ?_
            repeat (first | go_big_quiet_skip | (go_big_quiet_want; go_big_quiet_op; first | go_big_quiet_on | (refine ⟨_, fun _ _ => rfl, ?_⟩; go_big_quiet_on) | (refine ⟨_, e1, ?_⟩; go_big_quiet_on) | (refine ⟨_, e2, ?_⟩; go_big_quiet_on) | (refine ⟨.agg #[.int .i64 2, .int .i64 i, .int .u64 x, .int .u64 p], fun w' hw' => by obtain ⟨l0, l1, l2, l3⟩ := e3 w' hw'; simp [l0, l1, l2, l3, Result.andThen], ?_⟩; go_big_quiet_on)))
            refine wpQuiet_nil ?_
            intro w8 hb8
            clear e1 e2 e3
            go_wp2
            go_roundw
            case rel =>
              have hbel8 := R7.out.bel
              exact ⟨k + 1, by omega, by go_num, touched s 2 i p, rfl, R7.out.mem.below hb8, R7.out.wd.below hb8, by show IsLast w8 L 2 i ((s.X.getD i 0 : Nat) : Int) p; rw [HX.out]; exact R7.out.last.below hb8, st', hbel8.trans (hb8.mono hbel8.size)⟩
            case measure => simp [intOf]; omega
          by_cases k2 : kd = 2
          · subst k2
            obtain ⟨x, hX⟩ : ∃ x, s.X.getD i 0 = x := ⟨_, rfl⟩
            clear k0 k1
            by_cases hxp : x = p
            · have e : actS s 2 i p q = (touched s 3 i q, 0, true) := by simp only [actS, hr, Int.toNat_natCast, hX, hxp]; simp
              have st' := st.act e
              have c := does_round hm hwd hls hbel D.out 2 i p q bp bq ht e
              have hi : i < s.X.length := by rw [st.len]; omega
              have hin : i < n := by omega
              have HX : Hid (s.X.getD i 0 = x) := hX
              subst hxp
              clear e hr hr' hX hm hwd hls hbel
              go_wp2_with fail
              with_reducible refine c.mono ?_
              rintro e w5 ⟨rfl, hm5, hwd5, hls5, hac5, hb5⟩
              have R5 : Hid (Rd w w5 M G Wd L wr.heap.size _ _ _ _ _ _ _ _ _ _) := ⟨hm5, hwd5, hls5, hac5, hb5⟩
              clear c hm5 hwd5 hls5 hac5 hb5
              have u0 := R5.out.act.c0
              have u1 := R5.out.act.c1
              have u2 := R5.out.act.c2
              have u3 := R5.out.act.c3
              have v0 := R5.out.last.c0
              have v1 := R5.out.last.c1
              have v2 := R5.out.last.c2
              have v3 := R5.out.last.c3
              have vf := R5.out.last.free
              have x0 : w5.cell? ⟨Wd, i, none⟩ = some (.int .u64 (x : Nat)) := by rw [← HX.out]; exact words_at R5.out.wd i hi
              have xf := words_free R5.out.wd
              go_upto_region 19 with fail
              have d := D.out
              have r6 := (((R5.out.setL d.2.1 d.2.2.2.1 n5 n2 d.2.2.2.2.2.2.2.2 0 (.int .i64 4) _ _ _ _ rfl).setL d.2.1 d.2.2.2.1 n5 n2 d.2.2.2.2.2.2.2.2 1 (.int .i64 i) _ _ _ _ rfl).setL d.2.1 d.2.2.2.1 n5 n2 d.2.2.2.2.2.2.2.2 2 (.int .u64 x) _ _ _ _ rfl).setL d.2.1 d.2.2.2.1 n5 n2 d.2.2.2.2.2.2.2.2 3 (.int .u64 (IntKind.u64.wrap (x + x))) _ _ _ _ rfl
              have R6 : Hid _ := r6
              clear R5 r6 d u0 u1 u2 u3 v0 v1 v2 v3 vf x0 xf
              generalize ((((w5.setCell ⟨L, 0, none⟩ (.int .i64 4)).setCell ⟨L, 1, none⟩ (.int .i64 i)).setCell ⟨L, 2, none⟩ (.int .u64 x)).setCell ⟨L, 3, none⟩ (.int .u64 (IntKind.u64.wrap (x + x)))) = w6 at R6 ⊢
              have u0 := R6.out.act.c0
              have u1 := R6.out.act.c1
              have u2 := R6.out.act.c2
              have u3 := R6.out.act.c3
              have v0 := R6.out.last.c0
              have v1 := R6.out.last.c1
              have v2 := R6.out.last.c2
              have v3 := R6.out.last.c3
              have vf := R6.out.last.free
              have x0 : w6.cell? ⟨Wd, i, none⟩ = some (.int .u64 (x : Nat)) := by rw [← HX.out]; exact words_at R6.out.wd i hi
              have xf := words_free R6.out.wd
              go_upto_region 33 with fail
              have d := D.out
              have r6 := (R6.out.setL d.2.1 d.2.2.2.1 n5 n2 d.2.2.2.2.2.2.2.2 0 (.int .i64 3) _ _ _ _ rfl).setL d.2.1 d.2.2.2.1 n5 n2 d.2.2.2.2.2.2.2.2 3 (.int .u64 x) _ _ _ _ rfl
              have R6b : Hid _ := r6
              clear R6 r6 d u0 u1 u2 u3 v0 v1 v2 v3 vf x0 xf
              generalize ((w6.setCell ⟨L, 0, none⟩ (.int .i64 3)).setCell ⟨L, 3, none⟩ (.int .u64 x)) = w6b at R6b ⊢
              have u0 := R6b.out.act.c0
              have u1 := R6b.out.act.c1
              have u2 := R6b.out.act.c2
              have u3 := R6b.out.act.c3
              have v0 := R6b.out.last.c0
              have v1 := R6b.out.last.c1
              have v2 := R6b.out.last.c2
              have v3 := R6b.out.last.c3
              have vf := R6b.out.last.free
              have x0 : w6b.cell? ⟨Wd, i, none⟩ = some (.int .u64 (x : Nat)) := by rw [← HX.out]; exact words_at R6b.out.wd i hi
              have xf := words_free R6b.out.wd
              go_upto_region 36 with fail
              have d := D.out
              have r7 := (R6b.out.setL d.2.1 d.2.2.2.1 n5 n2 d.2.2.2.2.2.2.2.2 3 (.int .u64 q) _ _ _ _ rfl).setW d.1 d.2.2.1 n5 n4 d.2.2.2.2.2.2.2.1 i q
              have R7 : Hid _ := r7
              clear R6b r7 d u0 u1 u2 u3 v0 v1 v2 v3 vf x0 xf
              generalize ((w6b.setCell ⟨L, 3, none⟩ (.int .u64 q)).setCell ⟨Wd, i, none⟩ (.int .u64 q)) = w7 at R7 ⊢
              have e1 : ∀ w', Below w7.heap.size w7 w' → Calls Try.prog 11 #[.pointer (some ⟨M, 0, none⟩)] w' fun e w'' => e = .returned (.int .i64 (s.t + 1)) ∧ Below w7.heap.size w7 w'' := fun w' hw' =>
                (touches_any (R7.out.mem.below hw')).mono fun _ _ ⟨h1, h2⟩ => ⟨h1, h2 ▸ hw'⟩
              have e2 : ∀ w', Below w7.heap.size w7 w' → Calls Try.prog 12 #[.pointer (some ⟨M, 0, none⟩)] w' fun e w'' => e = .returned (.agg #[.int .i64 3, .int .i64 i, .int .u64 x, .int .u64 q]) ∧ Below w7.heap.size w7 w'' := fun w' hw' =>
                (last_s (k := 3) (a := i) (p := x) (q := q) (R7.out.mem.below hw') ⟨rfl, rfl, by show ((s.X.getD i 0 : Nat) : Int) = x; rw [HX.out], rfl⟩).mono fun _ _ ⟨h1, h2⟩ => ⟨h1, hw'.trans (h2.mono hw'.size)⟩
              have e3 : ∀ w', Below w7.heap.size w7 w' → w'.cell? ⟨L, 0, none⟩ = some (.int .i64 3) ∧ w'.cell? ⟨L, 1, none⟩ = some (.int .i64 i) ∧ w'.cell? ⟨L, 2, none⟩ = some (.int .u64 x) ∧ w'.cell? ⟨L, 3, none⟩ = some (.int .u64 q) := fun w' hw' =>
                ⟨(R7.out.last.below hw').c0, (R7.out.last.below hw').c1, (R7.out.last.below hw').c2, (R7.out.last.below hw').c3⟩
              refine region_below (by kernel_rfl) (by kernel_rfl) ?_
              repeat (first | go_big_quiet_skip | (go_big_quiet_want; go_big_quiet_op; first | go_big_quiet_on | (refine ⟨_, fun _ _ => rfl, ?_⟩; go_big_quiet_on) | (refine ⟨_, e1, ?_⟩; go_big_quiet_on) | (refine ⟨_, e2, ?_⟩; go_big_quiet_on) | (refine ⟨.agg #[.int .i64 3, .int .i64 i, .int .u64 x, .int .u64 q], fun w' hw' => by obtain ⟨l0, l1, l2, l3⟩ := e3 w' hw'; simp [l0, l1, l2, l3, Result.andThen], ?_⟩; go_big_quiet_on)))
              refine wpQuiet_nil ?_
              intro w8 hb8
              clear e1 e2 e3
              go_wp2
              go_roundw
              case rel =>
                have hbel8 := R7.out.bel
                exact ⟨k + 1, by omega, by go_num, touched s 3 i q, rfl, R7.out.mem.below hb8, R7.out.wd.below hb8, by show IsLast w8 L 3 i ((s.X.getD i 0 : Nat) : Int) q; rw [HX.out]; exact R7.out.last.below hb8, st', hbel8.trans (hb8.mono hbel8.size)⟩
              case measure => simp [intOf]; omega
            · have e : actS s 2 i p q = (touched s 3 i x, 0, false) := by simp only [actS, hr, Int.toNat_natCast, hX, hxp]; simp
              have st' := st.act e
              have c := does_round hm hwd hls hbel D.out 2 i p q bp bq ht e
              have hi : i < s.X.length := by rw [st.len]; omega
              have hin : i < n := by omega
              have HX : Hid (s.X.getD i 0 = x) := hX
              have hno : ((x : Int) == (p : Int)) = false := by simp; omega
              clear hxp
              clear e hr hr' hX hm hwd hls hbel
              go_wp2_with fail
              with_reducible refine c.mono ?_
              rintro e w5 ⟨rfl, hm5, hwd5, hls5, hac5, hb5⟩
              have R5 : Hid (Rd w w5 M G Wd L wr.heap.size _ _ _ _ _ _ _ _ _ _) := ⟨hm5, hwd5, hls5, hac5, hb5⟩
              clear c hm5 hwd5 hls5 hac5 hb5
              have u0 := R5.out.act.c0
              have u1 := R5.out.act.c1
              have u2 := R5.out.act.c2
              have u3 := R5.out.act.c3
              have v0 := R5.out.last.c0
              have v1 := R5.out.last.c1
              have v2 := R5.out.last.c2
              have v3 := R5.out.last.c3
              have vf := R5.out.last.free
              have x0 : w5.cell? ⟨Wd, i, none⟩ = some (.int .u64 (x : Nat)) := by rw [← HX.out]; exact words_at R5.out.wd i hi
              have xf := words_free R5.out.wd
              go_upto_region 19 with fail
              have d := D.out
              have r6 := (((R5.out.setL d.2.1 d.2.2.2.1 n5 n2 d.2.2.2.2.2.2.2.2 0 (.int .i64 4) _ _ _ _ rfl).setL d.2.1 d.2.2.2.1 n5 n2 d.2.2.2.2.2.2.2.2 1 (.int .i64 i) _ _ _ _ rfl).setL d.2.1 d.2.2.2.1 n5 n2 d.2.2.2.2.2.2.2.2 2 (.int .u64 x) _ _ _ _ rfl).setL d.2.1 d.2.2.2.1 n5 n2 d.2.2.2.2.2.2.2.2 3 (.int .u64 (IntKind.u64.wrap (x + p))) _ _ _ _ rfl
              have R6 : Hid _ := r6
              clear R5 r6 d u0 u1 u2 u3 v0 v1 v2 v3 vf x0 xf
              generalize ((((w5.setCell ⟨L, 0, none⟩ (.int .i64 4)).setCell ⟨L, 1, none⟩ (.int .i64 i)).setCell ⟨L, 2, none⟩ (.int .u64 x)).setCell ⟨L, 3, none⟩ (.int .u64 (IntKind.u64.wrap (x + p)))) = w6 at R6 ⊢
              have u0 := R6.out.act.c0
              have u1 := R6.out.act.c1
              have u2 := R6.out.act.c2
              have u3 := R6.out.act.c3
              have v0 := R6.out.last.c0
              have v1 := R6.out.last.c1
              have v2 := R6.out.last.c2
              have v3 := R6.out.last.c3
              have vf := R6.out.last.free
              have x0 : w6.cell? ⟨Wd, i, none⟩ = some (.int .u64 (x : Nat)) := by rw [← HX.out]; exact words_at R6.out.wd i hi
              have xf := words_free R6.out.wd
              go_upto_region 36 with fail
              have d := D.out
              have r7 := ((R6.out.setL d.2.1 d.2.2.2.1 n5 n2 d.2.2.2.2.2.2.2.2 0 (.int .i64 3) _ _ _ _ rfl).setL d.2.1 d.2.2.2.1 n5 n2 d.2.2.2.2.2.2.2.2 3 (.int .u64 x) _ _ _ _ rfl).setW d.1 d.2.2.1 n5 n4 d.2.2.2.2.2.2.2.1 i x
              have R7 : Hid _ := r7
              clear R6 r7 d u0 u1 u2 u3 v0 v1 v2 v3 vf x0 xf
              generalize (((w6.setCell ⟨L, 0, none⟩ (.int .i64 3)).setCell ⟨L, 3, none⟩ (.int .u64 x)).setCell ⟨Wd, i, none⟩ (.int .u64 x)) = w7 at R7 ⊢
              have e1 : ∀ w', Below w7.heap.size w7 w' → Calls Try.prog 11 #[.pointer (some ⟨M, 0, none⟩)] w' fun e w'' => e = .returned (.int .i64 (s.t + 1)) ∧ Below w7.heap.size w7 w'' := fun w' hw' =>
                (touches_any (R7.out.mem.below hw')).mono fun _ _ ⟨h1, h2⟩ => ⟨h1, h2 ▸ hw'⟩
              have e2 : ∀ w', Below w7.heap.size w7 w' → Calls Try.prog 12 #[.pointer (some ⟨M, 0, none⟩)] w' fun e w'' => e = .returned (.agg #[.int .i64 3, .int .i64 i, .int .u64 x, .int .u64 x]) ∧ Below w7.heap.size w7 w'' := fun w' hw' =>
                (last_s (k := 3) (a := i) (p := x) (q := x) (R7.out.mem.below hw') ⟨rfl, rfl, by show ((s.X.getD i 0 : Nat) : Int) = x; rw [HX.out], rfl⟩).mono fun _ _ ⟨h1, h2⟩ => ⟨h1, hw'.trans (h2.mono hw'.size)⟩
              have e3 : ∀ w', Below w7.heap.size w7 w' → w'.cell? ⟨L, 0, none⟩ = some (.int .i64 3) ∧ w'.cell? ⟨L, 1, none⟩ = some (.int .i64 i) ∧ w'.cell? ⟨L, 2, none⟩ = some (.int .u64 x) ∧ w'.cell? ⟨L, 3, none⟩ = some (.int .u64 x) := fun w' hw' =>
                ⟨(R7.out.last.below hw').c0, (R7.out.last.below hw').c1, (R7.out.last.below hw').c2, (R7.out.last.below hw').c3⟩
              refine region_below (by kernel_rfl) (by kernel_rfl) ?_
              repeat (first | go_big_quiet_skip | (go_big_quiet_want; go_big_quiet_op; first | go_big_quiet_on | (refine ⟨_, fun _ _ => rfl, ?_⟩; go_big_quiet_on) | (refine ⟨_, e1, ?_⟩; go_big_quiet_on) | (refine ⟨_, e2, ?_⟩; go_big_quiet_on) | (refine ⟨.agg #[.int .i64 3, .int .i64 i, .int .u64 x, .int .u64 x], fun w' hw' => by obtain ⟨l0, l1, l2, l3⟩ := e3 w' hw'; simp [l0, l1, l2, l3, Result.andThen], ?_⟩; go_big_quiet_on)))
              refine wpQuiet_nil ?_
              intro w8 hb8
              clear e1 e2 e3
              go_wp2
              go_roundw
              case rel =>
                have hbel8 := R7.out.bel
                exact ⟨k + 1, by omega, by go_num, touched s 3 i x, rfl, R7.out.mem.below hb8, R7.out.wd.below hb8, by show IsLast w8 L 3 i ((s.X.getD i 0 : Nat) : Int) x; rw [HX.out]; exact R7.out.last.below hb8, st', hbel8.trans (hb8.mono hbel8.size)⟩
              case measure => simp [intOf]; omega
          obtain ⟨x, hX⟩ : ∃ x, s.X.getD i 0 = x := ⟨_, rfl⟩
          have e : actS s kd i p q = (touched s 4 i (sumW x p), sumW x p, false) := by simp only [actS, hr, Int.toNat_natCast, hX, k0, k1, k2]; simp
          have st' := st.act e
          have c := does_round hm hwd hls hbel D.out kd i p q bp bq ht e
          have hi : i < s.X.length := by rw [st.len]; omega
          have hin : i < n := by omega
          have HX : Hid (s.X.getD i 0 = x) := hX
          clear e hr hr' hX hm hwd hls hbel
          have hsw := sumW_eq x p
          have b0 : (kd == 0) = false := by simpa using k0
          have b1 : (kd == 1) = false := by simpa using k1
          have b2 : (kd == 2) = false := by simpa using k2
          clear k0 k1 k2
          go_wp2_with fail
          with_reducible refine c.mono ?_
          rintro e w5 ⟨rfl, hm5, hwd5, hls5, hac5, hb5⟩
          have R5 : Hid (Rd w w5 M G Wd L wr.heap.size _ _ _ _ _ _ _ _ _ _) := ⟨hm5, hwd5, hls5, hac5, hb5⟩
          clear c hm5 hwd5 hls5 hac5 hb5
          have u0 := R5.out.act.c0
          have u1 := R5.out.act.c1
          have u2 := R5.out.act.c2
          have u3 := R5.out.act.c3
          have v0 := R5.out.last.c0
          have v1 := R5.out.last.c1
          have v2 := R5.out.last.c2
          have v3 := R5.out.last.c3
          have vf := R5.out.last.free
          have x0 : w5.cell? ⟨Wd, i, none⟩ = some (.int .u64 (x : Nat)) := by rw [← HX.out]; exact words_at R5.out.wd i hi
          have xf := words_free R5.out.wd
          go_upto_region 19 with fail
          have d := D.out
          have r6 := (((R5.out.setL d.2.1 d.2.2.2.1 n5 n2 d.2.2.2.2.2.2.2.2 0 (.int .i64 4) _ _ _ _ rfl).setL d.2.1 d.2.2.2.1 n5 n2 d.2.2.2.2.2.2.2.2 1 (.int .i64 i) _ _ _ _ rfl).setL d.2.1 d.2.2.2.1 n5 n2 d.2.2.2.2.2.2.2.2 2 (.int .u64 x) _ _ _ _ rfl).setL d.2.1 d.2.2.2.1 n5 n2 d.2.2.2.2.2.2.2.2 3 (.int .u64 (sumW x p : Nat)) _ _ _ _ rfl
          have R6 : Hid _ := r6
          clear R5 r6 d u0 u1 u2 u3 v0 v1 v2 v3 vf x0 xf
          generalize ((((w5.setCell ⟨L, 0, none⟩ (.int .i64 4)).setCell ⟨L, 1, none⟩ (.int .i64 i)).setCell ⟨L, 2, none⟩ (.int .u64 x)).setCell ⟨L, 3, none⟩ (.int .u64 (sumW x p : Nat))) = w6 at R6 ⊢
          have u0 := R6.out.act.c0
          have u1 := R6.out.act.c1
          have u2 := R6.out.act.c2
          have u3 := R6.out.act.c3
          have v0 := R6.out.last.c0
          have v1 := R6.out.last.c1
          have v2 := R6.out.last.c2
          have v3 := R6.out.last.c3
          have vf := R6.out.last.free
          have x0 : w6.cell? ⟨Wd, i, none⟩ = some (.int .u64 (x : Nat)) := by rw [← HX.out]; exact words_at R6.out.wd i hi
          have xf := words_free R6.out.wd
          go_upto_region 36 with fail
          have d := D.out
          have r7 := R6.out.setW d.1 d.2.2.1 n5 n4 d.2.2.2.2.2.2.2.1 i (sumW x p : Nat)
          have R7 : Hid _ := r7
          clear R6 r7 d u0 u1 u2 u3 v0 v1 v2 v3 vf x0 xf
          generalize (w6.setCell ⟨Wd, i, none⟩ (.int .u64 (sumW x p : Nat))) = w7 at R7 ⊢
          have e1 : ∀ w', Below w7.heap.size w7 w' → Calls Try.prog 11 #[.pointer (some ⟨M, 0, none⟩)] w' fun e w'' => e = .returned (.int .i64 (s.t + 1)) ∧ Below w7.heap.size w7 w'' := fun w' hw' =>
            (touches_any (R7.out.mem.below hw')).mono fun _ _ ⟨h1, h2⟩ => ⟨h1, h2 ▸ hw'⟩
          have e2 : ∀ w', Below w7.heap.size w7 w' → Calls Try.prog 12 #[.pointer (some ⟨M, 0, none⟩)] w' fun e w'' => e = .returned (.agg #[.int .i64 4, .int .i64 i, .int .u64 x, .int .u64 (sumW x p : Nat)]) ∧ Below w7.heap.size w7 w'' := fun w' hw' =>
            (last_s (k := 4) (a := i) (p := x) (q := (sumW x p : Nat)) (R7.out.mem.below hw') ⟨rfl, rfl, by show ((s.X.getD i 0 : Nat) : Int) = x; rw [HX.out], rfl⟩).mono fun _ _ ⟨h1, h2⟩ => ⟨h1, hw'.trans (h2.mono hw'.size)⟩
          have e3 : ∀ w', Below w7.heap.size w7 w' → w'.cell? ⟨L, 0, none⟩ = some (.int .i64 4) ∧ w'.cell? ⟨L, 1, none⟩ = some (.int .i64 i) ∧ w'.cell? ⟨L, 2, none⟩ = some (.int .u64 x) ∧ w'.cell? ⟨L, 3, none⟩ = some (.int .u64 (sumW x p : Nat)) := fun w' hw' =>
            ⟨(R7.out.last.below hw').c0, (R7.out.last.below hw').c1, (R7.out.last.below hw').c2, (R7.out.last.below hw').c3⟩
          refine region_below (by kernel_rfl) (by kernel_rfl) ?_
          repeat (first | go_big_quiet_skip | (go_big_quiet_want; go_big_quiet_op; first | go_big_quiet_on | (refine ⟨_, fun _ _ => rfl, ?_⟩; go_big_quiet_on) | (refine ⟨_, e1, ?_⟩; go_big_quiet_on) | (refine ⟨_, e2, ?_⟩; go_big_quiet_on) | (refine ⟨.agg #[.int .i64 4, .int .i64 i, .int .u64 x, .int .u64 (sumW x p : Nat)], fun w' hw' => by obtain ⟨l0, l1, l2, l3⟩ := e3 w' hw'; simp [l0, l1, l2, l3, Result.andThen], ?_⟩; go_big_quiet_on)))
          refine wpQuiet_nil ?_
          intro w8 hb8
          clear e1 e2 e3
          go_wp2
          go_roundw
          case rel =>
            have hbel8 := R7.out.bel
            exact ⟨k + 1, by omega, by go_num, touched s 4 i (sumW x p), rfl, R7.out.mem.below hb8, R7.out.wd.below hb8, by show IsLast w8 L 4 i ((s.X.getD i 0 : Nat) : Int) (sumW x p : Nat); rw [HX.out]; exact R7.out.last.below hb8, st', hbel8.trans (hb8.mono hbel8.size)⟩
          case measure => simp [intOf]; omega
      · have hkn : k = len := by omega
        subst hkn
        clear h1
        have hX : Hid (s.X.length = n) := st.len
        go_wp2_with (first
          | (go_at_call 14; with_reducible refine (words_n hm hX.out (by omega)).mono ?_; rintro e w7 ⟨R5, rfl, r5, hR5, b7⟩; have wd7 := hwd.below b7)
          | (go_at_call 13; with_reducible refine (same_n r5 wd7 hX.out (by omega)).mono ?_; rintro e w8 ⟨rfl, b8⟩; have b78 := b7.trans (b8.mono b7.size); have hm8 := hm.below b78)
          | (go_at_call 15; with_reducible refine (size_n hm8 hX.out).mono ?_; rintro e w9 ⟨rfl, rfl⟩)
          | (go_at_call 8; refine (awake_any _).mono ?_; rintro e w10 ⟨rfl, b10⟩))
        go_ret
        have c8 := hbel.trans (b78.mono hbel.size)
        exact ⟨rfl, c8.trans (b10.mono c8.size)⟩
end Go.Proofs.Yteeocnknocoefab
