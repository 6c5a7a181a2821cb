/- The law of a full table, walked. -/
import Derived.Test.YtnegdabcjnhpdabRAwake
import Derived.Test.YtnegdabcjnhpdabPFit
namespace Go.Proofs.Ytnegdabcjnhpdab
open Go.RowKit
open Mm (Only wordsOf)

def hd1 (x : En) : Nat := if x.2 = -1 then 0 else 1
theorem held_cons (x : En) (A : List En) : heldE (x :: A) = hd1 x + heldE A := by
  unfold heldE hd1
  rw [List.filter_cons]
  by_cases h : x.2 = -1
  · simp [h]
  · simp [h]; omega
theorem held_set (A : List En) (i : Nat) (x : En) (hi : i < A.length) : heldE (A.set i x) + hd1 (A.getD i (0, 0)) = heldE A + hd1 x := by
  induction A generalizing i with
  | nil => simp at hi
  | cons y l ih =>
    cases i with
    | zero => simp [held_cons]; omega
    | succ i =>
      have := ih i (by simpa using hi)
      simp [held_cons] at this ⊢
      omega
theorem held_rep (n : Nat) (t : Nat) : heldE (List.replicate n ((t, -1) : En)) = 0 := by
  unfold heldE
  simp
theorem getD_rep (n : Nat) (x : En) (j : Nat) (hj : j < n) : (List.replicate n x).getD j (0, 0) = x := by simp [List.getD, hj]

/-- What is known of the world within a law over one table. -/
structure Ow (w wr : World) (s a c d g k : Int) (P R : Nat) (t : Tb) : Prop where
  cfg : IsCfg wr w.heap.size s a c d g k
  tab : IsTab wr P R t
  bel : Below w.heap.size w wr
  hP : w.heap.size < P
  hR : w.heap.size < R
theorem Ow.below {w wr w' : World} {s a c d g k : Int} {P R : Nat} {t : Tb} (h : Ow w wr s a c d g k P R t) (b : Below wr.heap.size wr w') : Ow w w' s a c d g k P R t := ⟨h.cfg.below b, h.tab.below b, h.bel.trans (b.mono h.bel.size), h.hP, h.hR⟩
theorem Ow.chg {w wr w' : World} {s a c d g k : Int} {P R : Nat} {t t' : Tb} (h : Ow w wr s a c d g k P R t) (x : Chg [R] wr w') (ht : IsTab w' P R t') : Ow w w' s a c d g k P R t' :=
  ⟨h.cfg.chg x (by have := h.hR; simp; omega), ht, x.below h.bel (by have := h.hR; simp; omega) (Nat.le_refl _), h.hP, h.hR⟩
theorem Ow.drew {w wr : World} {s a c d g k : Int} {P R : Nat} {t : Tb} (h : Ow w wr s a c d g k P R t) : Ow w wr.drew s a c d g k P R t := h.below (Below.refl _ _).drew

/-- The first so many entries hold something. -/
structure Upto (A : List En) (n i : Nat) : Prop where
  len : A.length = n
  lo : ∀ j, j < i → (A.getD j (0, 0)).1 = 1 ∧ (A.getD j (0, 0)).2 ≠ -1
  hi : ∀ j, i ≤ j → j < n → A.getD j (0, 0) = (0, -1)
  held : heldE A = i
theorem frE_no {x : En} (h : x.2 ≠ -1) : frE x = false := by simp [frE, h]
theorem Upto.first {A : List En} {n i : Nat} (h : Upto A n i) (hi : i < n) : ff A = some i :=
  ff_is (by rw [h.len]; exact hi) (by rw [h.hi i (Nat.le_refl _) hi]; rfl) (fun j hj => frE_no (h.lo j hj).2)
theorem Upto.noff {A : List En} {n : Nat} (h : Upto A n n) : ff A = none :=
  ff_nil (fun j hj => frE_no (h.lo j (by rw [h.len] at hj; exact hj)).2)
theorem getD_setE (A : List En) (i : Nat) (x : En) (j : Nat) : (A.set i x).getD j (0, 0) = if i = j ∧ i < A.length then x else A.getD j (0, 0) := by
  simp only [List.getD_eq_getElem?_getD]
  rw [List.getElem?_set]
  by_cases h : i = j
  · subst h
    by_cases hi : i < A.length <;> simp [hi]
  · simp [h]
theorem Upto.next {A : List En} {n i : Nat} (h : Upto A n i) (hi : i < n) (sl : Nat) : Upto (A.set i (1, (sl : Int))) n (i + 1) := by
  have hl : i < A.length := by rw [h.len]; exact hi
  refine ⟨by simp [h.len], fun j hj => ?_, fun j h1 h2 => ?_, ?_⟩
  · rw [getD_setE]
    split
    · exact ⟨rfl, by show (sl : Int) ≠ -1; omega⟩
    · exact h.lo j (by omega)
  · rw [getD_setE, if_neg (by omega)]
    exact h.hi j (by omega) h2
  · have e := held_set A i (1, (sl : Int)) hl
    rw [h.hi i (Nat.le_refl _) hi, h.held] at e
    have e1 : hd1 ((0, -1) : En) = 0 := rfl
    have e2 : hd1 ((1, (sl : Int)) : En) = 1 := by unfold hd1; rw [if_neg (by show ¬ (sl : Int) = -1; omega)]
    omega
/-- With one entry dropped, and taken again. -/
theorem Upto.dropped {A : List En} {n k : Nat} (h : Upto A n n) (hk : k < n) : ff (A.set k (1, -1)) = some k ∧ heldE (A.set k (1, -1)) = n - 1 ∧ (A.set k (1, -1)).getD k (0, 0) = (1, -1) ∧ ff ((A.set k (1, -1)).set k (2, 0)) = none := by
  have hl : k < A.length := by rw [h.len]; exact hk
  refine ⟨?_, ?_, ?_, ?_⟩
  · refine ff_is (by simpa using hl) (by rw [getD_setE, if_pos ⟨rfl, hl⟩]; rfl) fun j hj => ?_
    rw [getD_setE, if_neg (by omega)]
    exact frE_no (h.lo j (by omega)).2
  · have e := held_set A k (1, -1) hl
    have e1 : hd1 ((1, -1) : En) = 0 := rfl
    have e2 : hd1 (A.getD k (0, 0)) = 1 := by unfold hd1; rw [if_neg (h.lo k hk).2]
    have := h.held
    omega
  · rw [getD_setE, if_pos ⟨rfl, hl⟩]
  · refine ff_nil fun j hj => ?_
    rw [getD_setE]
    split
    · rfl
    · rename_i hn
      rw [getD_setE]
      split
      · rename_i hm; exact absurd ⟨hm.1, by simpa using hm.2⟩ hn
      · exact frE_no (h.lo j (by simp at hj; rw [h.len] at hj; exact hj)).2

set_option maxHeartbeats 4000000 in
theorem full_law (s a c d g k : Int) (drop : Int) (w : World) :
    Calls Try.prog 6 #[.agg (cs s a c d g k), .int .i64 drop] w fun r w' => r = .returned (.bool true) ∧ Below w.heap.size w w' := by
  have cf := Fit_any s a c d g k
  have bel := alloc_below w (.cells #[.int .i64 s, .int .i64 a, .int .i64 c, .int .i64 d, .int .i64 g, .int .i64 k] 23)
  have hh := cfg_new w s a c d g k
  go_enter Try.func6, Try.ntmps6
  go_upto_region 1 with fail
  generalize w.alloc (.cells #[.int .i64 s, .int .i64 a, .int .i64 c, .int .i64 d, .int .i64 g, .int .i64 k] 23) = w1 at *
  obtain ⟨l0, l1, l2, l3, l4, l5⟩ := hh.cells
  go_upto_region 2 with (go_at_call 7; refine (cf _).mono ?_; rintro r w2 ⟨⟨s', a', c', d', g', k', rfl, hs1, ha1, hc1, hd1, hg1, hk1⟩, b⟩; replace bel := seq_below bel b; replace hh := hh.below b; obtain ⟨l0, l1, l2, l3, l4, l5⟩ := hh.cells; have y0 := hh.free 0; have y1 := hh.free 1; have y2 := hh.free 2; have y3 := hh.free 3; have y4 := hh.free 4; have y5 := hh.free 5)
  have h3 := cfg_stored6 hh s' a' c' d' g' k'
  have bel3 := below_stored6 bel (Nat.le_refl w.heap.size) (.int .i64 s') (.int .i64 a') (.int .i64 c') (.int .i64 d') (.int .i64 g') (.int .i64 k')
  clear l0 l1 l2 l3 l4 l5 y0 y1 y2 y3 y4 y5 hh cf bel
  generalize ((((((w2.setCell ⟨w.heap.size, 0, none⟩ (.int .i64 s')).setCell ⟨w.heap.size, 1, none⟩ (.int .i64 a')).setCell ⟨w.heap.size, 2, none⟩ (.int .i64 c')).setCell ⟨w.heap.size, 3, none⟩ (.int .i64 d')).setCell ⟨w.heap.size, 4, none⟩ (.int .i64 g')).setCell ⟨w.heap.size, 5, none⟩ (.int .i64 k')) = w3 at *
  have hr : rightB s' a' c' d' g' k' = true := rightB_iff.2 (by omega)
  obtain ⟨n, rfl⟩ : ∃ n : Nat, d' = (n : Int) := ⟨d'.toNat, by omega⟩
  obtain ⟨S, rfl⟩ : ∃ S : Nat, s' = (S : Int) := ⟨s'.toNat, by omega⟩
  have hn : 1 ≤ n ∧ n ≤ 4 := by omega
  have hS : 1 ≤ S ∧ S ≤ 12 := by omega
  have hw0 : be 0 c' = true := be_iff.2 (by omega)
  have c8 := fun wr => newTable_yes (w := wr) 0 n (by omega) hr hw0 rfl
  have c9 := awake_any
  obtain ⟨l0, l1, l2, l3, l4, l5⟩ := h3.cells
  have hlt3 := h3.lt
  clear hr hw0 b hs1 ha1 hc1 hd1 hg1 hk1
  go_upto_region 5 with (first
    | (go_at_call 8; refine (c8 _).mono ?_; rintro r w4 ⟨P, R, rfl, ht, h1, h2, b⟩; have ow : Ow w w4 S a' c' n g' k' P R _ := ⟨h3.below b, ht, seq_below bel3 b, by omega, by omega⟩; clear ht b h3 bel3 l0 l1 l2 l3 l4 l5)
    | (go_at_call 9; refine (c9 _).mono ?_; rintro r w5 ⟨rfl, b⟩; replace ow := ow.below b; clear b))
  have hnS : (S : Int) ≠ 0 := by omega
  go_wp2
  go_loopw [6] (fun v wr => ∃ (i : Nat) (A : List En), i ≤ n ∧ v = .int .i64 i ∧ Ow w wr S a' c' n g' k' P R ⟨S, a', c', n, g', k', 0, A⟩ ∧ Upto A n i) (fun v _ => n - (intOf v).toNat)
  case atStart => exact ⟨0, _, Nat.zero_le _, rfl, ow, ⟨by simp, fun j hj => by omega, fun j _ hj => getD_rep n _ j hj, held_rep n 0⟩⟩
  case round =>
    obtain ⟨i, A, hi, rfl, oi, ui⟩ := hrel
    obtain ⟨l0, l1, l2, l3, l4, l5⟩ := oi.cfg.cells
    by_cases hlt : i < n
    · have hmod : (i : Int).tmod (S : Int) = ((i % S : Nat) : Int) := by rw [Int.tmod_eq_emod_of_nonneg (by omega)]; omega
      have hms : i % S < S := Nat.mod_lt _ (by omega)
      have un := ui.next hlt (i % S)
      have ct := take_yes oi.tab (i % S) (by show ((i % S : Nat) : Int) < (S : Int); omega) (ui.first hlt) (tg := 0) (by show (A.getD i (0, 0)).1 = 0; rw [ui.hi i (Nat.le_refl _) hlt])
      generalize i % S = sl at *
      generalize Tg.hW (Tb.who ⟨S, a', c', n, g', k', 0, A⟩) i (0 + 1) = HH at *
      have chl : ∀ wr, IsTab wr P R ((⟨S, a', c', n, g', k', 0, A⟩ : Tb).put i (0 + 1, (sl : Int))) → Calls Try.prog 14 #[.pointer (some ⟨P, 0, none⟩)] wr fun e w' => e = .returned (.int .i64 ((i : Int) + 1)) ∧ Below wr.heap.size wr w' := fun wr ht => by
        have h := held_any ht
        have e : heldE ((⟨S, a', c', n, g', k', 0, A⟩ : Tb).put i (0 + 1, (sl : Int))).A = i + 1 := un.held
        rw [e] at h
        exact h
      have UN : Hid (Upto (A.set i (1, (sl : Int))) n (i + 1)) := un
      clear un ui c8 c9
      go_wp2_with (first
        | (go_at_call 10; refine ct.mono ?_; rintro r w6 ⟨rfl, ht, ch⟩; replace oi := oi.chg ch ht; clear ch ht ct)
        | (go_at_call 14; refine (chl _ oi.tab).mono ?_; rintro r w7 ⟨rfl, b⟩; replace oi := oi.below b; clear b))
      go_roundw
      case rel => exact ⟨i + 1, _, by omega, by go_num, oi, UN.out⟩
      case measure => simp [intOf]; omega
    · obtain rfl : i = n := by omega
      clear hlt hi
      have ct := take_full oi.tab 0 ui.noff
      have hu0 : 0 ≤ IntKind.u64.wrap drop := by rw [IntKind.wrap_u64]; omega
      have hKS : IntKind.u64.wrap (i : Int) = (i : Int) := by rw [IntKind.wrap_u64]; omega
      have hne : (i : Int) ≠ 0 := by omega
      obtain ⟨kx, hkx, hkS⟩ : ∃ kx : Nat, (IntKind.u64.wrap drop).tmod (i : Int) = (kx : Int) ∧ kx < i := by
        rw [Int.tmod_eq_emod_of_nonneg hu0]
        have q1 := Int.emod_nonneg (IntKind.u64.wrap drop) hne
        have q2 := Int.emod_lt_of_pos (IntKind.u64.wrap drop) (show (0 : Int) < i by omega)
        exact ⟨((IntKind.u64.wrap drop) % (i : Int)).toNat, by omega, by omega⟩
      obtain ⟨u1, u2, u3, u4⟩ := ui.dropped hkS
      have hold := (ui.lo kx hkS)
      have crm : ∀ wr, IsTab wr P R ⟨S, a', c', i, g', k', 0, A⟩ → Calls Try.prog 15 #[.pointer (some ⟨P, 0, none⟩)] wr fun e w' => e = .returned (.bool false) ∧ Below wr.heap.size wr w' := fun wr ht => by
        have h := room_any ht
        have e : (ff (Tb.A ⟨S, a', c', i, g', k', 0, A⟩)).isSome = false := by show (ff A).isSome = false; rw [ui.noff]; rfl
        rw [e] at h
        exact h
      have hl := ui.len
      have cd : ∀ wr, IsTab wr P R ⟨S, a', c', i, g', k', 0, A⟩ → Calls Try.prog 11 #[.pointer (some ⟨P, 0, none⟩), .int .i64 (kx : Nat)] wr fun e w' => e = .returned (.bool true) ∧ IsTab w' P R ⟨S, a', c', i, g', k', 0, A.set kx (1, -1)⟩ ∧ Chg [R] wr w' := fun wr ht => by
        have h := drop_in ht kx (by show kx < A.length; omega) rfl
        have e1 : ((Tb.A ⟨S, a', c', i, g', k', 0, A⟩).getD kx (0, 0)).1 = 1 := hold.1
        have e2 : decide (((Tb.A ⟨S, a', c', i, g', k', 0, A⟩).getD kx (0, 0)).2 ≠ -1) = true := decide_eq_true hold.2
        rw [e1, e2] at h
        exact h
      have crm2 : ∀ wr, IsTab wr P R ⟨S, a', c', i, g', k', 0, A.set kx (1, -1)⟩ → Calls Try.prog 15 #[.pointer (some ⟨P, 0, none⟩)] wr fun e w' => e = .returned (.bool true) ∧ Below wr.heap.size wr w' := fun wr ht => by
        have h := room_any ht
        have e : (ff (Tb.A ⟨S, a', c', i, g', k', 0, A.set kx (1, -1)⟩)).isSome = true := by show (ff (A.set kx (1, -1))).isSome = true; rw [u1]; rfl
        rw [e] at h
        exact h
      have chl : ∀ wr, IsTab wr P R ⟨S, a', c', i, g', k', 0, A.set kx (1, -1)⟩ → Calls Try.prog 14 #[.pointer (some ⟨P, 0, none⟩)] wr fun e w' => e = .returned (.int .i64 (IntKind.i64.wrap ((i : Int) - 1))) ∧ Below wr.heap.size wr w' := fun wr ht => by
        have h := held_any ht
        have e : ((heldE (Tb.A ⟨S, a', c', i, g', k', 0, A.set kx (1, -1)⟩) : Nat) : Int) = IntKind.i64.wrap ((i : Int) - 1) := by show ((heldE (A.set kx (1, -1)) : Nat) : Int) = _; rw [u2, IntKind.wrap_i64]; omega
        rw [e] at h
        exact h
      have ct2 : ∀ wr, IsTab wr P R ⟨S, a', c', i, g', k', 0, A.set kx (1, -1)⟩ → Calls Try.prog 10 #[.pointer (some ⟨P, 0, none⟩), .int .i64 0] wr fun e w' => (∃ H : Nat, e = .returned (.tuple #[.int .i64 (kx : Nat), .int .u64 (H : Nat), .bool true])) ∧ IsTab w' P R ⟨S, a', c', i, g', k', 0, (A.set kx (1, -1)).set kx (2, 0)⟩ ∧ Chg [R] wr w' := fun wr ht => by
        have h := take_yes ht 0 (by show ((0 : Nat) : Int) < (S : Int); omega) u1 (tg := 1) (by show ((A.set kx (1, -1)).getD kx (0, 0)).1 = 1; rw [u3])
        exact h.mono fun e w' ⟨he, ht, hc⟩ => ⟨⟨_, he⟩, ht, hc⟩
      have crm3 : ∀ wr, IsTab wr P R ⟨S, a', c', i, g', k', 0, (A.set kx (1, -1)).set kx (2, 0)⟩ → Calls Try.prog 15 #[.pointer (some ⟨P, 0, none⟩)] wr fun e w' => e = .returned (.bool false) ∧ Below wr.heap.size wr w' := fun wr ht => by
        have h := room_any ht
        have e : (ff (Tb.A ⟨S, a', c', i, g', k', 0, (A.set kx (1, -1)).set kx (2, 0)⟩)).isSome = false := by show (ff ((A.set kx (1, -1)).set kx (2, 0))).isSome = false; rw [u4]; rfl
        rw [e] at h
        exact h
      clear u1 u2 u3 u4 hold hl ui c8 c9
      go_upto_region 14 with (first
        | (go_at_call 10; refine ct.mono ?_; rintro r w6 ⟨rfl, b⟩; replace oi := oi.below b; clear b)
        | (go_at_call 15; refine (crm _ oi.tab).mono ?_; rintro r w7 ⟨rfl, b⟩; replace oi := oi.below b; clear b l0 l1 l2 l3 l4 l5; obtain ⟨l0, l1, l2, l3, l4, l5⟩ := oi.cfg.cells))
      clear crm ct
      go_upto_region 15 with fail
      clear hu0 hKS hkx
      clear l0 l1 l2 l3 l4 l5
      replace oi := oi.drew
      have l3 := oi.cfg.cells.2.2.2.1
      go_region_held (fun wr => wr.cell? ⟨w.heap.size, 3, none⟩ = some (.int .i64 (i : Int))) (exact oi.cfg.cells.2.2.2.1) (first
        | (go_at_call 11; with_reducible refine (cd _ oi.tab).mono ?_; rintro r w8 ⟨rfl, ht, ch⟩; replace oi := oi.chg ch ht; clear ch ht)
        | (go_at_call 15; with_reducible refine (crm2 _ oi.tab).mono ?_; rintro r w8 ⟨rfl, b⟩; replace oi := oi.below b; clear b)
        | (go_at_call 14; with_reducible refine (chl _ oi.tab).mono ?_; rintro r w8 ⟨rfl, b⟩; replace oi := oi.below b; clear b))
      all_goals
        go_wp2_with (first
          | (go_at_call 10; refine (ct2 _ oi.tab).mono ?_; rintro r w9 ⟨⟨H, rfl⟩, ht, ch⟩; replace oi := oi.chg ch ht; clear ch ht)
          | (go_at_call 15; refine (crm3 _ oi.tab).mono ?_; rintro r w9 ⟨rfl, b⟩; replace oi := oi.below b; clear b))
        go_ret
        exact ⟨rfl, oi.bel⟩
end Go.Proofs.Ytnegdabcjnhpdab
