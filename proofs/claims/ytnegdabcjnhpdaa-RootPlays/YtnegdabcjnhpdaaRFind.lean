/- Contracts of package root's Table: Find, NewTable. -/
import Derived.Test.YtnegdabcjnhpdaaRTake
namespace Go.Proofs.Ytnegdabcjnhpdaa
open Go.RowKit
open Mm (Only wordsOf)

/-- Whether a number is a handle that is found. -/
def fdOk (t : Tb) (x : Nat) : Bool := Tg.pOk x && be (Tg.pE x) t.A.length && decide (Tg.pC x = t.who) && decide ((t.A.getD (Tg.pE x).toNat (0, 0)).1 = Tg.pT x) && decide ((t.A.getD (Tg.pE x).toNat (0, 0)).2 ≠ -1)
def fdI (t : Tb) (x : Nat) : Int := if fdOk t x = true then Tg.pE x else 0
def fdS (t : Tb) (x : Nat) : Int := if fdOk t x = true then (t.A.getD (Tg.pE x).toNat (0, 0)).2 else 0
theorem fd_no {t : Tb} {x : Nat} (h : fdOk t x = false) : fdI t x = 0 ∧ fdS t x = 0 := by
  unfold fdI fdS; rw [h]; exact ⟨rfl, rfl⟩

set_option maxHeartbeats 2000000 in
theorem find_any {P R : Nat} {t : Tb} {w : World} (h : IsTab w P R t) (x : Nat) (hx : x < 18446744073709551616) :
    Calls Try.prog 10 #[.pointer (some ⟨P, 0, none⟩), .int .u64 (x : Nat)] w fun e w' => e = .returned (.tuple #[.int .i64 (fdI t x), .int .i64 (fdS t x), .bool (fdOk t x)]) ∧ Below w.heap.size w w' := by
  have c := Tg.parts_any x hx
  have bel := Below.refl w.heap.size w
  cases hO : Tg.pOk x
  · have e : fdOk t x = false := by unfold fdOk; rw [hO]; rfl
    rw [(fd_no e).1, (fd_no e).2, e]
    rw [hO] at c
    generalize Tg.pC x = C at *
    generalize Tg.pE x = E at *
    generalize Tg.pT x = U at *
    clear hx hO e
    generalize (x : Int) = y at *
    go_enter Try.func10, Try.ntmps10
    go_wp2_with (go_at_call 22; refine (c _).mono ?_; rintro e w1 ⟨rfl, b⟩)
    refine bodyPost_ret (results_tmp3 rfl _ _ _) rfl ?_
    exact ⟨rfl, b⟩
  rw [hO] at c
  have chs := fun wr (y : IsTab wr P R t) => has_any y (Tg.pE x)
  cases hB : be (Tg.pE x) t.A.length
  · have e : fdOk t x = false := by unfold fdOk; rw [hO, hB]; rfl
    rw [(fd_no e).1, (fd_no e).2, e]
    rw [hB] at chs
    generalize Tg.pC x = C at *
    generalize Tg.pE x = E at *
    generalize Tg.pT x = U at *
    clear hx hO e
    generalize (x : Int) = y at *
    go_enter Try.func10, Try.ntmps10
    go_wp2_with (first
      | (go_at_call 22; refine (c _).mono ?_; rintro e w1 ⟨rfl, b⟩; replace h := h.below b)
      | (go_at_call 21; refine (chs _ h).mono ?_; rintro e w1 ⟨rfl, rfl⟩))
    refine bodyPost_ret (results_tmp3 rfl _ _ _) rfl ?_
    exact ⟨rfl, b⟩
  rw [hB] at chs
  have hcl : ∀ wr, IsTab wr P R t → wr.cell? ⟨P, 6, none⟩ = some (.int .i64 t.who) := fun wr y => y.cells.2.2.2.2.2.2.1
  by_cases hC : ¬ Tg.pC x = t.who
  · have e : fdOk t x = false := by unfold fdOk; rw [hO, hB, decide_eq_false hC]; rfl
    rw [(fd_no e).1, (fd_no e).2, e]
    have hn : (Tg.pC x == t.who) = false := by simpa using hC
    clear hC
    generalize t.who = wh at *
    generalize Tg.pC x = C at *
    generalize Tg.pE x = E at *
    generalize Tg.pT x = U at *
    clear hx hO e
    generalize (x : Int) = y at *
    go_enter Try.func10, Try.ntmps10
    go_wp2_with (first
      | (go_at_call 22; refine (c _).mono ?_; rintro e w1 ⟨rfl, b⟩; replace h := h.below b)
      | (go_at_call 21; refine (chs _ h).mono ?_; rintro e w1 ⟨rfl, rfl⟩; have l6 := hcl _ h))
    refine bodyPost_ret (results_tmp3 rfl _ _ _) rfl ?_
    exact ⟨rfl, b⟩
  replace hC := Decidable.not_not.1 hC
  rw [hC] at c
  have hE := be_iff.1 hB
  obtain ⟨i, hi⟩ : ∃ i : Nat, Tg.pE x = (i : Int) := ⟨(Tg.pE x).toNat, by omega⟩
  have hlt : i < t.A.length := by omega
  have hi16 : (i : Int) ≤ 15 := by have := h.ok.d16; omega
  have hold := h.ok.at hlt
  have cp := eparts hold
  have e1 : fdOk t x = (decide ((t.A.getD i (0, 0)).1 = Tg.pT x) && decide ((t.A.getD i (0, 0)).2 ≠ -1)) := by
    unfold fdOk; rw [hO, hB, decide_eq_true hC, hi]; rfl
  have hwr : ∀ wr, IsTab wr P R t → wr.cell? ⟨R, i, none⟩ = some (.int .u64 (enW (t.A.getD i (0, 0)) : Nat)) := fun wr y => y.word hlt
  obtain ⟨n, hn⟩ : ∃ n, t.A.length = n := ⟨_, rfl⟩
  have hcc : ∀ wr, IsTab wr P R t → wr.cell? ⟨P, 7, none⟩ = some (.slice (some ⟨R, 0, none⟩) n n) := fun wr x => hn ▸ x.cells.2.2.2.2.2.2.2
  have hin : (i : Int) < (n : Int) := by omega
  have e2 : fdI t x = if fdOk t x = true then (i : Int) else 0 := by unfold fdI; rw [hi]
  have e3 : fdS t x = if fdOk t x = true then (t.A.getD i (0, 0)).2 else 0 := by unfold fdS; rw [hi]; rfl
  rw [e2, e3, e1]
  rw [hi] at chs c
  clear e1 e2 e3 hi hE hB hC hn hlt hold hO hx
  generalize enW (t.A.getD i (0, 0)) = W at *
  obtain ⟨tg, htg⟩ : ∃ tg, (t.A.getD i (0, 0)).1 = tg := ⟨_, rfl⟩
  obtain ⟨sl, hsl⟩ : ∃ sl, (t.A.getD i (0, 0)).2 = sl := ⟨_, rfl⟩
  rw [htg, hsl] at cp ⊢
  clear htg hsl
  generalize Tg.pT x = U at *
  generalize t.who = wh at *
  generalize (x : Int) = y at *
  by_cases hT : tg = U
  · subst hT
    by_cases hS : sl = -1
    · subst hS
      simp only [decide_true, Bool.true_and, ne_eq, not_true, decide_false, Bool.false_eq_true, if_false]
      go_enter Try.func10, Try.ntmps10
      go_wp2_with (first
        | (go_at_call 22; refine (c _).mono ?_; rintro e w1 ⟨rfl, b⟩; replace h := h.below b; replace bel := seq_below bel b)
        | (go_at_call 21; refine (chs _ h).mono ?_; rintro e w1 ⟨rfl, rfl⟩; have l6 := hcl _ h; have l7 := hcc _ h; have lw := hwr _ h)
        | (go_at_call 19; refine (cp _).mono ?_; rintro e w1 ⟨rfl, b2⟩; replace bel := seq_below bel b2))
      refine bodyPost_ret (results_tmp3 rfl _ _ _) rfl ?_
      exact ⟨rfl, bel⟩
    · have hz : (sl == -1) = false := by simpa using hS
      have ez : decide (sl ≠ -1) = true := decide_eq_true hS
      rw [ez]
      simp only [decide_true, Bool.true_and, if_true]
      clear hS ez
      go_enter Try.func10, Try.ntmps10
      go_wp2_with (first
        | (go_at_call 22; refine (c _).mono ?_; rintro e w1 ⟨rfl, b⟩; replace h := h.below b; replace bel := seq_below bel b)
        | (go_at_call 21; refine (chs _ h).mono ?_; rintro e w1 ⟨rfl, rfl⟩; have l6 := hcl _ h; have l7 := hcc _ h; have lw := hwr _ h)
        | (go_at_call 19; refine (cp _).mono ?_; rintro e w1 ⟨rfl, b2⟩; replace bel := seq_below bel b2))
      refine bodyPost_ret (results_tmp3 rfl _ _ _) rfl ?_
      exact ⟨rfl, bel⟩
  · have hz : ((tg : Int) == (U : Int)) = false := by simp; omega
    have ez : decide (tg = U) = false := decide_eq_false hT
    rw [ez]
    simp only [Bool.false_and, Bool.false_eq_true, if_false]
    clear hT ez
    go_enter Try.func10, Try.ntmps10
    go_wp2_with (first
      | (go_at_call 22; refine (c _).mono ?_; rintro e w1 ⟨rfl, b⟩; replace h := h.below b; replace bel := seq_below bel b)
      | (go_at_call 21; refine (chs _ h).mono ?_; rintro e w1 ⟨rfl, rfl⟩; have l6 := hcl _ h; have l7 := hcc _ h; have lw := hwr _ h)
      | (go_at_call 19; refine (cp _).mono ?_; rintro e w1 ⟨rfl, b2⟩; replace bel := seq_below bel b2))
    refine bodyPost_ret (results_tmp3 rfl _ _ _) rfl ?_
    exact ⟨rfl, bel⟩

theorem info24 : (Try.prog.info? 24).map (fun i => (i.zero, i.size, i.bytes)) = some (some (.int .u64 0), 1, 8) := by kernel_rfl

set_option maxHeartbeats 1000000 in
theorem newTable_no (s a c d g k who : Int) (last : Nat) (hl : last < 18446744073709551616) (hr : ((rightB s a c d g k && be who c) && decide (last < 4294967296)) = false) (w : World) :
    Calls Try.prog 5 #[.agg (cs s a c d g k), .int .i64 who, .int .u64 (last : Nat)] w fun e w' => e = .returned (.pointer none) ∧ Below w.heap.size w w' := by
  have ce := Tg.entry_any last (-1) hl
  have e1 : Tg.topOk 32 last (-1) = decide (last < 4294967296) := by
    unfold Tg.topOk
    rw [show Tg.isS1 (-1) = true from rfl, Bool.true_and]
  rw [e1] at ce
  clear e1
  have bel := alloc_below w (.cells #[.int .i64 s, .int .i64 a, .int .i64 c, .int .i64 d, .int .i64 g, .int .i64 k] 23)
  have hh := cfg_new w s a c d g k
  generalize Tg.topW 32 last (-1) = W at *
  cases hrc : rightB s a c d g k && be who c
  · have cn := entry_no who 0 hrc
    generalize decide (last < 4294967296) = O at *
    clear hl hr
    generalize (last : Int) = la at *
    go_enter Try.func5, Try.ntmps5
    go_upto_region 1 with fail
    generalize w.alloc (.cells #[.int .i64 s, .int .i64 a, .int .i64 c, .int .i64 d, .int .i64 g, .int .i64 k] 23) = w0 at *
    go_wp2_with (first
      | (go_at_call 15; refine (ce _).mono ?_; rintro e w1 ⟨rfl, b⟩; replace hh := hh.below b; replace bel := seq_below bel b; obtain ⟨l0, l1, l2, l3, l4, l5⟩ := hh.cells)
      | (go_at_call 16; refine (cn _).mono ?_; rintro e w1 ⟨rfl, b⟩; replace bel := seq_below bel b))
    go_ret
    exact ⟨rfl, bel⟩
  · rw [hrc, Bool.true_and] at hr
    rw [hr] at ce
    rw [Bool.and_eq_true] at hrc
    have hD := rightB_iff.1 hrc.1
    have cy := entry_yes who 0 hrc.1 hrc.2 (be_iff.2 (by omega))
    obtain ⟨E, hE⟩ : ∃ E : Int, (4 + c + who * d + 0) = E := ⟨_, rfl⟩
    clear hl hr hD hrc
    generalize (last : Int) = la at *
    go_enter Try.func5, Try.ntmps5
    go_upto_region 1 with fail
    generalize w.alloc (.cells #[.int .i64 s, .int .i64 a, .int .i64 c, .int .i64 d, .int .i64 g, .int .i64 k] 23) = w0 at *
    go_wp2_with (first
      | (go_at_call 15; refine (ce _).mono ?_; rintro e w1 ⟨rfl, b⟩; replace hh := hh.below b; replace bel := seq_below bel b; obtain ⟨l0, l1, l2, l3, l4, l5⟩ := hh.cells)
      | (go_at_call 16; refine (cy _).mono ?_; rintro e w1 ⟨rfl, b⟩; replace bel := seq_below bel b))
    all_goals
      go_ret
      exact ⟨rfl, bel⟩

theorem rep_enWs (n : Nat) : enWs (List.replicate n ((0, -1) : En)) = madeCells #[Value.int .u64 0] n := by
  apply Array.ext'
  simp [enWs, wordsOf, madeCells, enW]
  apply List.ext_getElem
  · simp
  · intro j h1 h2
    simp [Nat.mod_one]
theorem getD_put (t : Tb) (i : Nat) (x : En) (j : Nat) : (t.put i x).A.getD j (0, 0) = if i = j ∧ i < t.A.length then x else t.A.getD j (0, 0) := by
  simp only [Tb.put, List.getD_eq_getElem?_getD]
  rw [List.getElem?_set]
  by_cases h : i = j
  · subst h
    by_cases hi : i < t.A.length <;> simp [hi]
  · simp [h]
theorem rep_of {A : List En} {n : Nat} {x : En} (hl : A.length = n) (h : ∀ j, j < n → A.getD j (0, 0) = x) : A = List.replicate n x := by
  apply List.ext_getElem
  · simp [hl]
  · intro j h1 h2
    have e := h j (by omega)
    rw [List.getElem_replicate]
    simpa [List.getD, h1] using e

set_option maxHeartbeats 2000000 in
theorem newTable_yes {s a c d g k who : Int} (last n : Nat) (hl : last < 4294967296) (hr : rightB s a c d g k = true) (hw : be who c = true) (hn : d = (n : Int)) (w : World) :
    Calls Try.prog 5 #[.agg (cs s a c d g k), .int .i64 who, .int .u64 (last : Nat)] w fun e w' => ∃ P R, e = .returned (.pointer (some ⟨P, 0, none⟩)) ∧ IsTab w' P R ⟨s, a, c, d, g, k, who, List.replicate n (last, -1)⟩ ∧ w.heap.size ≤ P ∧ w.heap.size ≤ R ∧ Below w.heap.size w w' := by
  subst hn
  have ce := Tg.entry_any last (-1) (by omega)
  have hen : EnOk (last, (-1 : Int)) := ⟨hl, by show -1 ≤ (-1 : Int) ∧ (-1 : Int) ≤ 63; omega⟩
  have e1 := hen.top
  rw [e1.1, e1.2] at ce
  have bel := alloc_below w (.cells #[.int .i64 s, .int .i64 a, .int .i64 c, .int .i64 (n : Int), .int .i64 g, .int .i64 k] 23)
  have hh := cfg_new w s a c n g k
  have hD := rightB_iff.1 hr
  have hW := be_iff.1 hw
  have cy := entry_yes who 0 hr hw (be_iff.2 (by omega))
  have hmul := mul_b (x := who) (y := n) (X := 8) (Y := 16) (by omega) (by omega)
  have hE : 0 ≤ 4 + c + who * (n : Int) + 0 := by omega
  have hmk := run_make_row' (P := Try.prog) 30 24 (.int .u64 0) 8 Try.underlying30 info24 rfl .i64 .i64 n (by omega) (by omega)
  have htb : ∀ (w1 : World), Below w.heap.size w w1 → IsTab ((w1.alloc (.cells (madeCells #[.int .u64 0] n) 24)).alloc (.cells #[.int .i64 s, .int .i64 a, .int .i64 c, .int .i64 (n : Int), .int .i64 g, .int .i64 k, .int .i64 who, .slice (some ⟨w1.heap.size, 0, none⟩) n n] 48)) (w1.heap.size + 1) w1.heap.size ⟨s, a, c, n, g, k, who, List.replicate n (0, -1)⟩ := fun w1 b => by
    have q1 := new_obj w1 (.cells (madeCells #[.int .u64 0] n) 24)
    have q2 := new_obj (w1.alloc (.cells (madeCells #[.int .u64 0] n) 24)) (.cells #[.int .i64 s, .int .i64 a, .int .i64 c, .int .i64 (n : Int), .int .i64 g, .int .i64 k, .int .i64 who, .slice (some ⟨w1.heap.size, 0, none⟩) n n] 48)
    have hz : (w1.alloc (.cells (madeCells #[.int .u64 0] n) 24)).heap.size = w1.heap.size + 1 := by simp
    rw [hz] at q2
    refine ⟨by rw [q2]; simp, ?_, by omega, ⟨hr, hw, by simp, ?_⟩⟩
    · rw [(alloc_below (w1.alloc (.cells (madeCells #[.int .u64 0] n) 24)) _).block _ (by omega), q1, rep_enWs]
    · intro y hy
      obtain ⟨_, rfl⟩ := List.mem_replicate.1 hy
      exact ⟨by show 0 < _; omega, by show -1 ≤ (-1 : Int) ∧ (-1 : Int) ≤ 63; omega⟩
  clear e1 hmul hW hw hr
  generalize 4 + c + who * (n : Int) + 0 = E at *
  have hWl := hen.lt
  obtain ⟨W, hWe⟩ : ∃ W, enW (last, (-1 : Int)) = W := ⟨_, rfl⟩
  rw [hWe] at ce
  clear hl
  go_enter Try.func5, Try.ntmps5
  go_upto_region 1 with fail
  generalize w.alloc (.cells #[.int .i64 s, .int .i64 a, .int .i64 c, .int .i64 (n : Int), .int .i64 g, .int .i64 k] 23) = w0 at *
  go_upto_region 4 with (first
      | (go_at_call 15; refine (ce _).mono ?_; rintro e w1 ⟨rfl, b⟩; replace hh := hh.below b; replace bel := seq_below bel b; obtain ⟨l0, l1, l2, l3, l4, l5⟩ := hh.cells)
      | (go_at_call 16; refine (cy _).mono ?_; rintro e w1 ⟨rfl, b⟩; replace hh := hh.below b; replace bel := seq_below bel b; clear l0 l1 l2 l3 l4 l5; obtain ⟨l0, l1, l2, l3, l4, l5⟩ := hh.cells))
  clear l0 l1 l2 l3 l4 l5 b ce cy
  obtain ⟨l0, l1, l2, l3, l4, l5⟩ := hh.cells
  have htb := htb _ bel
  go_region_held (fun w' => w'.cell? ⟨w.heap.size, 0, none⟩ = some (.int .i64 s) ∧ w'.cell? ⟨w.heap.size, 1, none⟩ = some (.int .i64 a) ∧ w'.cell? ⟨w.heap.size, 2, none⟩ = some (.int .i64 c) ∧ w'.cell? ⟨w.heap.size, 3, none⟩ = some (.int .i64 (n : Int)) ∧ w'.cell? ⟨w.heap.size, 4, none⟩ = some (.int .i64 g) ∧ w'.cell? ⟨w.heap.size, 5, none⟩ = some (.int .i64 k)) (first | (exact hh.cells) | (exact (hh.below (alloc_below _ _)).cells) | (exact ((hh.below (alloc_below _ _)).below (alloc_below _ _)).cells)) (fail)
  clear l0 l1 l2 l3 l4 l5 b hmk hh
  have tb := htb.below (Below.refl _ _).drew
  have bl := seq_below (seq_below (seq_below bel (alloc_below w1 (.cells (madeCells #[.int .u64 0] n) 24))) (alloc_below _ (.cells #[.int .i64 s, .int .i64 a, .int .i64 c, .int .i64 (n : Int), .int .i64 g, .int .i64 k, .int .i64 who, .slice (some ⟨w1.heap.size, 0, none⟩) n n] 48))) (Below.refl _ _).drew
  have hR := bel.size
  clear htb bel
  rename_i hHeld
  clear hHeld
  generalize ((w1.alloc (.cells (madeCells #[.int .u64 0] n) 24)).alloc (.cells #[.int .i64 s, .int .i64 a, .int .i64 c, .int .i64 (n : Int), .int .i64 g, .int .i64 k, .int .i64 who, .slice (some ⟨w1.heap.size, 0, none⟩) n n] 48)).drew = w2 at *
  have l7 := tb.cells.2.2.2.2.2.2.2
  simp only [List.length_replicate] at l7
  generalize w1.heap.size = R at *
  go_wp2
  go_loopw [36] (fun i wr => ∃ (j : Nat) (A : List En), j ≤ n ∧ i = .int .i64 j ∧ IsTab wr (R + 1) R ⟨s, a, c, n, g, k, who, A⟩ ∧ Below w.heap.size w wr ∧ ∀ x, x < j → A.getD x (0, 0) = (last, -1)) (fun i _ => n - (intOf i).toNat)
  case atStart => exact ⟨0, _, Nat.zero_le _, rfl, tb, bl, fun x hx => by omega⟩
  case round =>
    obtain ⟨j, A, hj, rfl, tj, bj, hA⟩ := hrel
    have hAl : A.length = n := by have := tj.ok.len; simp only at this; omega
    have l7 := tj.cells.2.2.2.2.2.2.2
    simp only [hAl] at l7
    by_cases hlt : j < n
    · have lf := tj.free j
      have t2 := tj.put j hen
      have b2 := bj.setCell (p := ⟨R, j, none⟩) hR (.int .u64 (enW (last, (-1 : Int)) : Nat))
      have hg := getD_put ⟨s, a, c, n, g, k, who, A⟩ j (last, (-1 : Int))
      have hr0 := tj.word (i := j) (by show j < A.length; omega)
      simp only [hWe] at t2 b2
      have HT : Hid (IsTab (wr.setCell ⟨R, j, none⟩ (.int .u64 (W : Nat))) (R + 1) R ((⟨s, a, c, n, g, k, who, A⟩ : Tb).put j (last, -1))) := t2
      have HB : Hid (Below w.heap.size w (wr.setCell ⟨R, j, none⟩ (.int .u64 (W : Nat)))) := b2
      have HG : Hid (∀ x, ((⟨s, a, c, n, g, k, who, A⟩ : Tb).put j (last, -1)).A.getD x (0, 0) = if j = x ∧ j < A.length then (last, -1) else A.getD x (0, 0)) := hg
      clear t2 b2 hg tj bj
      go_wp2
      go_roundw
      case rel => exact ⟨j + 1, _, by omega, by go_num, HT.out, HB.out, fun x hx => by
        refine (HG.out x).trans ?_
        split
        · rfl
        · exact hA x (by omega)⟩
      case measure => simp [intOf]; omega
    · go_wp2
      go_ret
      have e : A = List.replicate n (last, -1) := rep_of hAl fun x hx => hA x (by omega)
      subst e
      exact ⟨R + 1, R, rfl, tj, by omega, hR, bj⟩
end Go.Proofs.Ytnegdabcjnhpdaa
