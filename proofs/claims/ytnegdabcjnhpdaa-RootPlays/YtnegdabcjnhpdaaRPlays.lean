/- The law that plays acts on a table, walked. -/
import Derived.Test.YtnegdabcjnhpdaaRPl0
import Derived.Deep.CutBlock
import Derived.Deep.DeepCutAuto
namespace Go.Proofs.Ytnegdabcjnhpdaa
open Go.RowKit
open Mm (Only wordsOf)

def IsAc (w : World) (B : Nat) (k n : Int) (r : Nat) : Prop := w.heap[B]? = some (.cells #[.int .i64 k, .int .i64 n, .int .u64 (r : Nat)] 33 (0, 0))
theorem IsAc.cells {w : World} {B : Nat} {k n : Int} {r : Nat} (h : IsAc w B k n r) : w.cell? ⟨B, 0, none⟩ = some (.int .i64 k) ∧ w.cell? ⟨B, 1, none⟩ = some (.int .i64 n) ∧ w.cell? ⟨B, 2, none⟩ = some (.int .u64 (r : Nat)) := by
  have h' : w.heap[B]? = _ := h
  simp [World.cell?, h']
theorem IsAc.chg {L : List Nat} {w w' : World} {B : Nat} {k n : Int} {r : Nat} (h : IsAc w B k n r) (x : Chg L w w') (hn : B ∉ L) : IsAc w' B k n r := x.at h hn
theorem IsAc.below {w w' : World} {B : Nat} {k n : Int} {r : Nat} (h : IsAc w B k n r) (b : Below w.heap.size w w') : IsAc w' B k n r := h.chg (L := []) (Chg.of_below b) (by simp)
theorem info3 : (Try.prog.info? 3).map (fun i => (i.zero, i.size, i.bytes)) = some (some (.int .i64 0), 1, 8) := by kernel_rfl
theorem made_T (n : Nat) : madeCells #[Value.int .u64 0] n = enTs (List.replicate n (0, 0)) := by
  apply Array.ext'
  simp [enTs, madeCells]
  apply List.ext_getElem
  · simp
  · intro j h1 h2
    simp [Nat.mod_one]
theorem made_S (n : Nat) : madeCells #[Value.int .i64 0] n = enSs (List.replicate n (0, 0)) := by
  apply Array.ext'
  simp [enSs, madeCells]
  apply List.ext_getElem
  · simp
  · intro j h1 h2
    simp [Nat.mod_one]

set_option maxHeartbeats 8000000 in
set_option maxRecDepth 100000 in
theorem plays_law (s a c d g k who : Int) (tag : Nat) (htag : tag < 18446744073709551616) (ad : Option Addr) (N cap : Nat) (Z : Nat → Ac) (w : World) (hZ : RdA w ad N Z) (hN : N ≤ maxLen) :
    Calls Try.prog 3 #[.agg (cs s a c d g k), .int .i64 who, .int .u64 (tag : Nat), .slice ad N cap] w fun r w' => r = .returned (.bool true) ∧ Below w.heap.size w w' := by
  unfold maxLen at hN
  obtain ⟨i0, hi0, hzz0, hzz1, hzz2⟩ := info_parts info24'
  have bel := alloc_below w (.cells #[.int .i64 s, .int .i64 a, .int .i64 c, .int .i64 d, .int .i64 g, .int .i64 k] 23)
  have hh := cfg_new w s a c d g k
  have c9 := awake_any
  go_enter Try.func3, Try.ntmps3
  go_upto_region 1 with fail
  generalize w.alloc (.cells #[.int .i64 s, .int .i64 a, .int .i64 c, .int .i64 d, .int .i64 g, .int .i64 k] 23) = w1 at *
  by_cases hN2 : 200 < N
  · as_aux_lemma =>
    have hNi : (200 : Int) < (N : Int) := by omega
    go_wp2_with (go_at_call 4; refine (c9 _).mono ?_; rintro r w5 ⟨rfl, b⟩; replace bel := seq_below bel b)
    go_ret
    exact ⟨rfl, bel⟩
  have hNi : ¬ (200 : Int) < (N : Int) := by omega
  have hNi2 : (N : Int) ≤ 200 := by omega
  have crr := fun wr => rright_any s a c d g k wr
  obtain ⟨l0, l1, l2, l3, l4, l5⟩ := hh.cells
  cases hrc : (rightB s a c d g k && be who c) && decide (tag < 4294967296)
  · as_aux_lemma =>
    have c5 := newTable_no s a c d g k who tag htag hrc
    have hwI : Hid (¬ (rightB s a c d g k = true ∧ (0 ≤ who ∧ who < c) ∧ (tag : Int) ≤ 4294967295)) := fun hx => by
      have e : ((rightB s a c d g k && be who c) && decide (tag < 4294967296)) = true := by
        rw [hx.1, be_iff.2 hx.2.1, decide_eq_true (by omega)]; rfl
      rw [hrc] at e; cases e
    clear hrc htag
    generalize rightB s a c d g k = rb at *
    generalize (tag : Int) = tz at *
    cases rb
    · as_aux_lemma =>
      go_wp2_with (first
        | (go_at_call 5; refine (c5 _).mono ?_; rintro r w4 ⟨rfl, b⟩; replace hh := hh.below b; replace bel := seq_below bel b; clear l0 l1 l2 l3 l4 l5; obtain ⟨l0, l1, l2, l3, l4, l5⟩ := hh.cells)
        | (go_at_call 6; refine (crr _).mono ?_; rintro r w4 ⟨rfl, b⟩; replace hh := hh.below b; replace bel := seq_below bel b; clear l0 l1 l2 l3 l4 l5; obtain ⟨l0, l1, l2, l3, l4, l5⟩ := hh.cells)
        | (go_at_call 4; refine (c9 _).mono ?_; rintro r w5 ⟨rfl, b⟩; replace bel := seq_below bel b))
      all_goals first
        | (go_ret; exact ⟨rfl, bel⟩)
        | (exfalso; have := hwI.out; simp at this)
    · as_aux_lemma =>
      by_cases hw1 : who < 0
      · as_aux_lemma =>
        go_wp2_with (first
          | (go_at_call 5; refine (c5 _).mono ?_; rintro r w4 ⟨rfl, b⟩; replace hh := hh.below b; replace bel := seq_below bel b; clear l0 l1 l2 l3 l4 l5; obtain ⟨l0, l1, l2, l3, l4, l5⟩ := hh.cells)
          | (go_at_call 6; refine (crr _).mono ?_; rintro r w4 ⟨rfl, b⟩; replace hh := hh.below b; replace bel := seq_below bel b; clear l0 l1 l2 l3 l4 l5; obtain ⟨l0, l1, l2, l3, l4, l5⟩ := hh.cells)
          | (go_at_call 4; refine (c9 _).mono ?_; rintro r w5 ⟨rfl, b⟩; replace bel := seq_below bel b))
        go_ret; exact ⟨rfl, bel⟩
      · as_aux_lemma =>
        by_cases hw2 : c ≤ who
        · as_aux_lemma =>
          go_wp2_with (first
            | (go_at_call 5; refine (c5 _).mono ?_; rintro r w4 ⟨rfl, b⟩; replace hh := hh.below b; replace bel := seq_below bel b; clear l0 l1 l2 l3 l4 l5; obtain ⟨l0, l1, l2, l3, l4, l5⟩ := hh.cells)
            | (go_at_call 6; refine (crr _).mono ?_; rintro r w4 ⟨rfl, b⟩; replace hh := hh.below b; replace bel := seq_below bel b; clear l0 l1 l2 l3 l4 l5; obtain ⟨l0, l1, l2, l3, l4, l5⟩ := hh.cells)
            | (go_at_call 4; refine (c9 _).mono ?_; rintro r w5 ⟨rfl, b⟩; replace bel := seq_below bel b))
          go_ret; exact ⟨rfl, bel⟩
        · as_aux_lemma =>
          have hw3 : 4294967295 < tz := by
            have := hwI.out
            simp only [true_and] at this
            omega
          go_wp2_with (first
            | (go_at_call 5; refine (c5 _).mono ?_; rintro r w4 ⟨rfl, b⟩; replace hh := hh.below b; replace bel := seq_below bel b; clear l0 l1 l2 l3 l4 l5; obtain ⟨l0, l1, l2, l3, l4, l5⟩ := hh.cells)
            | (go_at_call 6; refine (crr _).mono ?_; rintro r w4 ⟨rfl, b⟩; replace hh := hh.below b; replace bel := seq_below bel b; clear l0 l1 l2 l3 l4 l5; obtain ⟨l0, l1, l2, l3, l4, l5⟩ := hh.cells)
            | (go_at_call 4; refine (c9 _).mono ?_; rintro r w5 ⟨rfl, b⟩; replace bel := seq_below bel b))
          go_ret; exact ⟨rfl, bel⟩
  rw [Bool.and_eq_true, Bool.and_eq_true, decide_eq_true_eq] at hrc
  obtain ⟨⟨hr, hw⟩, ht32⟩ := hrc
  have hR := rightB_iff.1 hr
  have hWi := be_iff.1 hw
  obtain ⟨n, rfl⟩ : ∃ n : Nat, d = (n : Int) := ⟨d.toNat, by omega⟩
  obtain ⟨S, rfl⟩ : ∃ S : Nat, s = (S : Int) := ⟨s.toNat, by omega⟩
  have hn : 1 ≤ n ∧ n ≤ 16 := by omega
  have hS : 1 ≤ S ∧ S ≤ 64 := by omega
  have c5 := fun wr => newTable_yes (w := wr) tag n ht32 hr hw rfl
  rw [hr] at crr
  have hw1 : ¬ who < 0 := by omega
  have hw2 : ¬ c ≤ who := by omega
  have hw3 : ¬ (4294967295 : Int) < (tag : Int) := by omega
  have hmk1 := run_make_row' (P := Try.prog) 30 24 (.int .u64 0) 8 Try.underlying30 info24 rfl .i64 .i64 n (by omega) (by omega)
  have hmk2 := run_make_row' (P := Try.prog) 31 3 (.int .i64 0) 8 Try.underlying31 info3 rfl .i64 .i64 n (by omega) (by omega)
  clear hR hWi
  go_upto_region 8 with (first
    | (go_at_call 5; refine (c5 _).mono ?_; rintro r w4 ⟨P, R, rfl, ht, h1, h2, b⟩; have hlt0 := hh.lt; have ow : Ow w w4 S a c n g k P R _ := ⟨hh.below b, ht, seq_below bel b, by omega, by omega⟩; clear ht b hh bel l0 l1 l2 l3 l4 l5; obtain ⟨l0, l1, l2, l3, l4, l5⟩ := ow.cfg.cells)
    | (go_at_call 6; refine (crr _).mono ?_; rintro r w4 ⟨rfl, b⟩; replace ow := ow.below b; clear b l0 l1 l2 l3 l4 l5; obtain ⟨l0, l1, l2, l3, l4, l5⟩ := ow.cfg.cells)
    | (go_at_call 4; refine (c9 _).mono ?_; rintro r w5 ⟨rfl, b⟩; replace ow := ow.below b; clear b l0 l1 l2 l3 l4 l5; obtain ⟨l0, l1, l2, l3, l4, l5⟩ := ow.cfg.cells))
  clear c5 crr c9 h1 h2 hlt0
  have hPl := ow.tab.P_lt
  have hRl := ow.tab.R_lt
  have hCl := ow.cfg.lt
  have q1 := new_obj w5 (.cells (madeCells #[.int .u64 0] n) 24)
  have q2 := new_obj (w5.alloc (.cells (madeCells #[.int .u64 0] n) 24)) (.cells (madeCells #[.int .i64 0] n) 3)
  have hz1 : (w5.alloc (.cells (madeCells #[.int .u64 0] n) 24)).heap.size = w5.heap.size + 1 := by simp
  have hz2 : ((w5.alloc (.cells (madeCells #[.int .u64 0] n) 24)).alloc (.cells (madeCells #[.int .i64 0] n) 3)).heap.size = w5.heap.size + 2 := by simp
  have b1 := alloc_below w5 (.cells (madeCells #[.int .u64 0] n) 24)
  have b2 := alloc_below (w5.alloc (.cells (madeCells #[.int .u64 0] n) 24)) (.cells (madeCells #[.int .i64 0] n) 3)
  rw [hz1] at q2
  have q3 := (b2.block w5.heap.size (by omega)).trans q1
  have owf := (ow.below b1).below b2
  have hrw : Rw ((w5.alloc (.cells (madeCells #[.int .u64 0] n) 24)).alloc (.cells (madeCells #[.int .i64 0] n) 3)) w5.heap.size (w5.heap.size + 1) (List.replicate n (0, 0)) := ⟨by rw [q3, made_T], by rw [q2, made_S]⟩
  have py : Py w ((w5.alloc (.cells (madeCells #[.int .u64 0] n) 24)).alloc (.cells (madeCells #[.int .i64 0] n) 3)) ⟨S, a, c, n, g, k, who, List.replicate n (tag, -1)⟩ P R w5.heap.size (w5.heap.size + 1) (w5.heap.size + 2) (List.replicate n (0, 0)) (.slice none 0 0) [] :=
    ⟨owf, hrw, World.ownsRow_nil _ _ _ _, by omega, by omega, fun x hx => by cases hx⟩
  clear q1 q2 q3 owf hrw
  go_upto_region 10 with fail
  clear ow l0 l1 l2 l3 l4 l5 hPl hRl hCl b1 b2 hz1 hz2 hmk1 hmk2
  generalize (w5.alloc (.cells (madeCells #[.int .u64 0] n) 24)).alloc (.cells (madeCells #[.int .i64 0] n) 3) = w6 at *
  obtain ⟨F, hF⟩ : ∃ F, w5.heap.size + 1 = F := ⟨_, rfl⟩
  obtain ⟨base, hbs⟩ : ∃ base, w5.heap.size + 2 = base := ⟨_, rfl⟩
  rw [hF, hbs] at py
  rw [hF]
  clear hF hbs
  generalize w5.heap.size = G at *
  have hen : EnOk (tag, (-1 : Int)) := ⟨ht32, by show -1 ≤ (-1 : Int) ∧ (-1 : Int) ≤ 63; omega⟩
  go_wp2
  go_loopw [12] (fun v wr => ∃ (j : Nat) (B : List En), j ≤ n ∧ v = .int .i64 j ∧ B.length = n ∧ (∀ x, x < j → B.getD x (0, 0) = (tag, -1)) ∧ Py w wr ⟨S, a, c, n, g, k, who, List.replicate n (tag, -1)⟩ P R G F base B (.slice none 0 0) []) (fun v _ => n - (intOf v).toNat)
  case atStart => exact ⟨0, _, Nat.zero_le _, rfl, by simp, fun x hx => by omega, py⟩
  case round =>
    as_aux_lemma =>
    clear py
    obtain ⟨j, B, hj, rfl, hBl, hBj, py⟩ := hrel
    have l3 := py.ow.cfg.cells.2.2.2.1
    by_cases hlt : j < n
    · as_aux_lemma =>
      have e1 := py.rw.t (i := j) (by omega)
      have e2 := py.rw.fG j
      have p1 := py.setT j tag rfl
      have e3 := p1.rw.s (i := j) (by simp; omega)
      have e4 := p1.rw.fF j
      have p2 := p1.setS j (-1)
      have hgs : ∀ x, x < j + 1 → ((B.set j (tag, (B.getD j (0, 0)).2)).set j (((B.set j (tag, (B.getD j (0, 0)).2)).getD j (0, 0)).1, -1)).getD x (0, 0) = (tag, -1) := fun x hx => by
        rw [getD_setE, getD_setE, getD_setE]
        by_cases h : j = x
        · subst h
          rw [if_pos ⟨rfl, by simp; omega⟩, if_pos ⟨rfl, by omega⟩]
        · rw [if_neg (by omega), if_neg (by omega)]
          exact hBj x (by omega)
      have hlen : ((B.set j (tag, (B.getD j (0, 0)).2)).set j (((B.set j (tag, (B.getD j (0, 0)).2)).getD j (0, 0)).1, -1)).length = n := by simp [hBl]
      generalize (B.set j (tag, (B.getD j (0, 0)).2)).set j (((B.set j (tag, (B.getD j (0, 0)).2)).getD j (0, 0)).1, -1) = B2 at *
      have P2 : Hid (Py w ((wr.setCell ⟨G, j, none⟩ (.int .u64 (tag : Nat))).setCell ⟨F, j, none⟩ (.int .i64 (-1))) ⟨S, a, c, n, g, k, who, List.replicate n (tag, -1)⟩ P R G F base B2 (.slice none 0 0) []) := p2
      generalize ((B.set j (tag, (B.getD j (0, 0)).2)).getD j (0, 0)).2 = z3 at *
      clear p1 p2 py hBj hen
      go_wp2
      go_roundw
      case rel => exact ⟨j + 1, B2, by omega, by go_num, hlen, hgs, P2.out⟩
      case measure => simp [intOf]; omega
    · as_aux_lemma =>
      obtain rfl : B = List.replicate n (tag, -1) := rep_of hBl fun x hx => hBj x (by omega)
      clear hBl hBj
      go_wp2
      go_loopw [13, 14] (fun v kk wr => ∃ (j : Nat) (A : List En) (T : List Nat), j ≤ N ∧ kk = .int .i64 j ∧ T.length ≤ j ∧ Py w wr ⟨S, a, c, n, g, k, who, A⟩ P R G F base A v T) (fun _ kk _ => N - (intOf kk).toNat)
      case atStart => exact ⟨0, _, [], Nat.zero_le _, rfl, Nat.zero_le _, py⟩
      case round =>
        as_aux_lemma =>
        clear py l3
        obtain ⟨j, A, T, hj, rfl, hTj, py⟩ := hrel
        by_cases hlt : j < N
        · as_aux_lemma =>
          obtain ⟨bb, off, rfl, hbb0, hc0, hc1, hc2, hrr⟩ := hZ j hlt
          have hbl := py.ow.bel
          have a0 : wr.cell? ⟨bb, off + j * 3, none⟩ = some (.int .i64 (Z j).k) := by rw [hbl.cell (p := ⟨bb, off + j * 3, none⟩) hbb0]; exact hc0
          have a1 : wr.cell? ⟨bb, off + j * 3 + 1, none⟩ = some (.int .i64 (Z j).n) := by rw [hbl.cell (p := ⟨bb, off + j * 3 + 1, none⟩) hbb0]; exact hc1
          have a2 : wr.cell? ⟨bb, off + j * 3 + 2, none⟩ = some (.int .u64 ((Z j).r : Nat)) := by rw [hbl.cell (p := ⟨bb, off + j * 3 + 2, none⟩) hbb0]; exact hc2
          clear hc0 hc1 hc2 hbl
          generalize (Z j).k = zk at *
          generalize (Z j).n = zn at *
          generalize (Z j).r = zr at *
          go_upto_region 20 with fail
          have ac : IsAc (wr.alloc (.cells #[.int .i64 zk, .int .i64 zn, .int .u64 (zr : Nat)] 33)) wr.heap.size zk zn zr := new_obj _ _
          have hbq : base ≤ wr.heap.size := py.hb.2.2.2.2
          replace py := py.below (alloc_below wr (.cells #[.int .i64 zk, .int .i64 zn, .int .u64 (zr : Nat)] 33))
          obtain ⟨av, cv, hv, hcs⟩ := own_form py.own
          subst hv
          clear a0 a1 a2
          generalize wr.alloc (.cells #[.int .i64 zk, .int .i64 zn, .int .u64 (zr : Nat)] 33) = wq at *
          generalize wr.heap.size = Bq at *
          have hAl : A.length = n := py.len rfl
          have hok := py.ow.tab.ok.en
          simp only at hok
          obtain ⟨z0, z1, z2⟩ := ac.cells
          go_upto_block 4 with fail
          go_cut [13] (fun v wx => ∃ (A' : List En) (T' : List Nat), T'.length ≤ j + 1 ∧ Py w wx ⟨S, a, c, n, g, k, who, A'⟩ P R G F base A' v T')
          case first =>
            as_aux_lemma =>
            by_cases hk0 : zk = 0
            · as_aux_lemma =>
              subst hk0
              by_cases hz : 0 ≤ zn
              · as_aux_lemma =>
                by_cases hzS : zn < (S : Int)
                · as_aux_lemma =>
                  obtain ⟨sl, rfl⟩ : ∃ sl : Nat, zn = (sl : Int) := ⟨zn.toNat, by omega⟩
                  cases hff : ff A with
                  | none =>
                    obtain ⟨at_, hat⟩ : ∃ at_ : Nat, ff A = some at_ ∨ (ff A = none ∧ at_ = n) := ⟨n, .inr ⟨hff, rfl⟩⟩
                    have ct := take_full py.ow.tab (sl : Int) hff
                    go_upto_block 7 with (go_at_call 7; refine ct.mono ?_; rintro r w8 ⟨rfl, b⟩; replace py := py.below b; replace ac := ac.below b; clear b z0 z1 z2; obtain ⟨z0, z1, z2⟩ := ac.cells; have l3 := py.ow.cfg.cells.2.2.2.1; have l0 := py.ow.cfg.cells.1)
                    clear ct
                    go_cut [19] (fun v wx => v = .int .i64 (at_ : Nat) ∧ wx = w8)
                    case first =>
                      as_aux_lemma =>
                      go_wp2_with fail
                      go_loop [19] (fun v => ∃ m : Nat, m ≤ n ∧ v = .int .i64 m ∧ ∀ x, x < m → frE (A.getD x (0, 0)) = false) (fun v => n - (intOf v).toNat)
                      case atStart => exact ⟨0, Nat.zero_le _, rfl, fun x hx => by omega⟩
                      case round =>
                        as_aux_lemma =>
                        obtain ⟨m, hm, rfl, hmf⟩ := hrel
                        by_cases hmn : m < n
                        · as_aux_lemma =>
                          have e1 := py.rw.t (i := m) (by omega)
                          have e2 := py.rw.s (i := m) (by omega)
                          have hen := hok (A.getD m (0, 0)) (by rw [show A.getD m (0, 0) = A[m]'(by omega) by simp [List.getD, hAl, hmn]]; exact List.getElem_mem _)
                          have hs := hen.s
                          have ht := hen.t
                          have hfd : frE (A.getD m (0, 0)) = (decide ((A.getD m (0, 0)).2 = -1) && decide ((A.getD m (0, 0)).1 < 4294967295)) := rfl
                          have hnx : frE (A.getD m (0, 0)) = false → ∀ x, x < m + 1 → frE (A.getD x (0, 0)) = false := fun h x hx => by
                            rcases Nat.lt_succ_iff_lt_or_eq.1 hx with h1 | rfl
                            · exact hmf x h1
                            · exact h
                          have hex : frE (A.getD m (0, 0)) = true → at_ = m := fun h => by
                            have e := ff_is (by omega) h hmf
                            rcases hat with h1 | h1
                            · rw [h1] at e; cases e; rfl
                            · rw [h1.1] at e; cases e
                          clear hen hmf
                          generalize hfr : frE (A.getD m (0, 0)) = fr at *
                          clear hfr
                          generalize (A.getD m (0, 0)).1 = tgm at *
                          generalize (A.getD m (0, 0)).2 = slm at *
                          by_cases hsm : slm = -1
                          · as_aux_lemma =>
                            subst hsm
                            by_cases htm : tgm = 4294967295
                            · as_aux_lemma =>
                              subst htm
                              have hnf : fr = false := by rw [hfd]; rfl
                              go_wp2
                              go_round
                              case rel => exact ⟨m + 1, by omega, by go_num, hnx hnf⟩
                              case measure => simp [intOf]; omega
                            · as_aux_lemma =>
                              have hti : ¬ (tgm : Int) = 4294967295 := by omega
                              have hnf : fr = true := by rw [hfd, decide_eq_true (by omega : tgm < 4294967295)]; rfl
                              have hae := hex hnf
                              go_wp2
                              go_meet
                              case rel => exact ⟨by rw [hae], rfl⟩
                          · as_aux_lemma =>
                            have hs0 : 0 ≤ slm := by omega
                            have hnf : fr = false := by rw [hfd, decide_eq_false hsm, Bool.false_and]
                            clear hsm hs
                            go_wp2
                            go_round
                            case rel => exact ⟨m + 1, by omega, by go_num, hnx hnf⟩
                            case measure => simp [intOf]; omega
                        · as_aux_lemma =>
                          have hae : at_ = m := by
                            rcases hat with h1 | h1
                            · have := ff_lt h1
                              have := ff_at h1
                              rw [hmf at_ (by omega)] at this
                              cases this
                            · omega
                          clear hmf
                          go_wp2
                          go_meet
                          case rel => exact ⟨by rw [hae], rfl⟩
                    case rest =>
                      as_aux_lemma =>
                      obtain ⟨rfl, rfl⟩ := hcut
                      have hai : (at_ : Int) = (n : Int) := by
                        rcases hat with h1 | h1
                        · rw [hff] at h1; cases h1
                        · omega
                      clear hat
                      go_wp2
                      all_goals
                        go_meet
                        case rel => exact ⟨A, T, by omega, py⟩

                  | some i =>
                    obtain ⟨at_, hat⟩ : ∃ at_ : Nat, ff A = some at_ ∨ (ff A = none ∧ at_ = n) := ⟨i, .inl hff⟩
                    have hil := ff_lt hff
                    have hfr := ff_at hff
                    have hfr' : (A.getD i (0, 0)).2 = -1 ∧ (A.getD i (0, 0)).1 < 4294967295 := by simpa [frE] using hfr
                    obtain ⟨tg, htg⟩ : ∃ tg, (A.getD i (0, 0)).1 = tg := ⟨_, rfl⟩
                    have ct := take_yes py.ow.tab sl (by show (sl : Int) < (S : Int); omega) hff htg
                    have htl : tg < 4294967295 := by omega
                    have hw8 := py.ow.tab.ok.w8
                    have hkh : Tg.hOk who i (tg + 1) = true := Tg.hOk_iff.2 (by simp only at hw8; omega)
                    have cr := Tg.rhandle_any who i (tg + 1) (by omega)
                    rw [hkh] at cr
                    have hXl : Tg.hW who (i : Int) (tg + 1) < 18446744073709551616 := by rw [Tg.hW_yes hkh]; have := Tg.hOk_iff.1 hkh; omega
                    have ct2 : Calls Try.prog 7 #[.pointer (some ⟨P, 0, none⟩), .int .i64 (sl : Nat)] wq fun e w' => e = .returned (.tuple #[.int .i64 (i : Nat), .int .u64 (Tg.hW who i (tg + 1) : Nat), .bool true]) ∧ IsTab w' P R ⟨S, a, c, n, g, k, who, A.set i (tg + 1, (sl : Int))⟩ ∧ Chg [R] wq w' := ct
                    have hrows : (A.set i (tg + 1, (A.getD i (0, 0)).2)).set i (((A.set i (tg + 1, (A.getD i (0, 0)).2)).getD i (0, 0)).1, (sl : Int)) = A.set i (tg + 1, (sl : Int)) := by
                      rw [getD_setE, if_pos ⟨rfl, hil⟩, List.set_set]
                    have hA1 : ((A.set i (tg + 1, (sl : Int))).getD i (0, 0)).1 = tg + 1 := by rw [getD_setE, if_pos ⟨rfl, hil⟩]
                    have hA1l : (A.set i (tg + 1, (sl : Int))).length = n := by simp [hAl]
                    have h1i : i < (A.set i (tg + 1, (sl : Int))).length := by omega
                    obtain ⟨A', hA'⟩ : ∃ A', A.set i (tg + 1, (sl : Int)) = A' := ⟨_, rfl⟩
                    rw [hA'] at ct2 hrows hA1 hA1l h1i
                    generalize Tg.hW who (i : Int) (tg + 1) = X at *
                    clear ct hkh hfr hfr' hw8 hA'
                    go_upto_block 7 with (go_at_call 7; refine ct2.mono ?_; rintro r w8 ⟨rfl, ht, ch⟩; replace py := py.chg ch ht; replace ac := ac.chg ch (by have := py.hb; simp; omega); clear ht ch z0 z1 z2; obtain ⟨z0, z1, z2⟩ := ac.cells; have l3 := py.ow.cfg.cells.2.2.2.1; have l0 := py.ow.cfg.cells.1)
                    clear ct2
                    go_cut [19] (fun v wx => v = .int .i64 (at_ : Nat) ∧ wx = w8)
                    case first =>
                      as_aux_lemma =>
                      go_wp2_with fail
                      go_loop [19] (fun v => ∃ m : Nat, m ≤ n ∧ v = .int .i64 m ∧ ∀ x, x < m → frE (A.getD x (0, 0)) = false) (fun v => n - (intOf v).toNat)
                      case atStart => exact ⟨0, Nat.zero_le _, rfl, fun x hx => by omega⟩
                      case round =>
                        as_aux_lemma =>
                        obtain ⟨m, hm, rfl, hmf⟩ := hrel
                        by_cases hmn : m < n
                        · as_aux_lemma =>
                          have e1 := py.rw.t (i := m) (by omega)
                          have e2 := py.rw.s (i := m) (by omega)
                          have hen := hok (A.getD m (0, 0)) (by rw [show A.getD m (0, 0) = A[m]'(by omega) by simp [List.getD, hAl, hmn]]; exact List.getElem_mem _)
                          have hs := hen.s
                          have ht := hen.t
                          have hfd : frE (A.getD m (0, 0)) = (decide ((A.getD m (0, 0)).2 = -1) && decide ((A.getD m (0, 0)).1 < 4294967295)) := rfl
                          have hnx : frE (A.getD m (0, 0)) = false → ∀ x, x < m + 1 → frE (A.getD x (0, 0)) = false := fun h x hx => by
                            rcases Nat.lt_succ_iff_lt_or_eq.1 hx with h1 | rfl
                            · exact hmf x h1
                            · exact h
                          have hex : frE (A.getD m (0, 0)) = true → at_ = m := fun h => by
                            have e := ff_is (by omega) h hmf
                            rcases hat with h1 | h1
                            · rw [h1] at e; cases e; rfl
                            · rw [h1.1] at e; cases e
                          clear hen hmf
                          generalize hfr : frE (A.getD m (0, 0)) = fr at *
                          clear hfr
                          generalize (A.getD m (0, 0)).1 = tgm at *
                          generalize (A.getD m (0, 0)).2 = slm at *
                          by_cases hsm : slm = -1
                          · as_aux_lemma =>
                            subst hsm
                            by_cases htm : tgm = 4294967295
                            · as_aux_lemma =>
                              subst htm
                              have hnf : fr = false := by rw [hfd]; rfl
                              go_wp2
                              go_round
                              case rel => exact ⟨m + 1, by omega, by go_num, hnx hnf⟩
                              case measure => simp [intOf]; omega
                            · as_aux_lemma =>
                              have hti : ¬ (tgm : Int) = 4294967295 := by omega
                              have hnf : fr = true := by rw [hfd, decide_eq_true (by omega : tgm < 4294967295)]; rfl
                              have hae := hex hnf
                              go_wp2
                              go_meet
                              case rel => exact ⟨by rw [hae], rfl⟩
                          · as_aux_lemma =>
                            have hs0 : 0 ≤ slm := by omega
                            have hnf : fr = false := by rw [hfd, decide_eq_false hsm, Bool.false_and]
                            clear hsm hs
                            go_wp2
                            go_round
                            case rel => exact ⟨m + 1, by omega, by go_num, hnx hnf⟩
                            case measure => simp [intOf]; omega
                        · as_aux_lemma =>
                          have hae : at_ = m := by
                            rcases hat with h1 | h1
                            · have := ff_lt h1
                              have := ff_at h1
                              rw [hmf at_ (by omega)] at this
                              cases this
                            · omega
                          clear hmf
                          go_wp2
                          go_meet
                          case rel => exact ⟨by rw [hae], rfl⟩
                    case rest =>
                      as_aux_lemma =>
                      obtain ⟨rfl, rfl⟩ := hcut
                      have hai : at_ = i := by
                        rcases hat with h1 | h1
                        · rw [hff] at h1; cases h1; rfl
                        · rw [hff] at h1; cases h1.1
                      subst hai
                      have e1 := py.rw.t (i := at_) (by omega)
                      rw [htg] at e1
                      have f1 := py.rw.fG at_
                      have hwt : IntKind.u64.wrap ((tg : Int) + 1) = ((tg + 1 : Nat) : Int) := by rw [IntKind.wrap_u64]; omega
                      obtain ⟨tg1, htg1⟩ : ∃ tg1 : Int, ((tg + 1 : Nat) : Int) = tg1 := ⟨_, rfl⟩
                      rw [htg1] at hwt cr
                      have hne : ¬ (at_ : Int) = (n : Int) := by omega
                      have hz3 : ¬ (sl : Int) < 0 := by omega
                      have hz4 : ¬ (S : Int) ≤ (sl : Int) := by omega
                      have hii : (at_ : Int) < (n : Int) := by omega
                      clear hat hff
                      go_upto_region 43 with fail
                      replace py := py.setT at_ (tg + 1) htg1
                      have ac1 := ac.chg ((Chg.refl [G] wc).setCell (b := G) (o := at_) (by simp) (.int .u64 tg1)) (by have := py.hb; simp; omega)
                      clear ac z0 z1 z2 l3 l0 e1 f1 hwt
                      generalize wc.setCell ⟨G, at_, none⟩ (.int .u64 tg1) = w9 at *
                      obtain ⟨z0, z1, z2⟩ := ac1.cells
                      have f2 := py.rw.fF at_
                      have e2 := py.rw.s (i := at_) (by simp; omega)
                      generalize ((A.set at_ (tg + 1, (A.getD at_ (0, 0)).2)).getD at_ (0, 0)).2 = z9 at e2
                      go_upto_region 44 with fail
                      replace py := py.setS at_ (sl : Int)
                      rw [hrows] at py
                      clear ac1 z0 z1 z2 e2 f2 hrows
                      generalize w9.setCell ⟨F, at_, none⟩ (.int .i64 (sl : Int)) = w10 at *
                      have e1 := py.rw.t (i := at_) h1i
                      rw [hA1, htg1] at e1
                      have h63 : T.length + 1 ≤ maxLen := by unfold maxLen; omega
                      have hby : (T.length + 1) * 8 ≤ 140737488355328 := by omega
                      go_wp2_with (first
                        | (go_at_call 8; refine (cr _).mono ?_; rintro r w11 ⟨rfl, rfl⟩)
                        | (at_builtin; refine wpList_append_lies _ rfl _ _ _ rfl base 24 i0 _ 1 8 Try.underlying30 hi0 hzz0 hzz1 hzz2 rfl (by decide) _ T.length (uvals T) rfl (py.own.alloc _) ⟨w10.heap.size, 0, none⟩ 1 1 [.int .u64 (X : Nat)] rfl rfl (World.news_of_block (cs := #[.int .u64 (X : Nat)]) (t := 24) (fr := (0, 0)) (heap_alloc_new _ _)) (by simp [Value.oneCell']) (by omega) h63 hby (by have := py.hb; simp; omega) (w10.heap.size + 1) (by simp) ?_; intro gg cap' w12 hown hgrow hata hlt'; have pp := (py.below (alloc_below w10 _)).push hXl hown hgrow))
                      go_meet
                      case rel => exact ⟨A', T ++ [X], by simp; omega, pp⟩

                · as_aux_lemma =>
                  obtain ⟨at_, hat⟩ : ∃ at_ : Nat, ff A = some at_ ∨ (ff A = none ∧ at_ = n) := by
                    cases ff A with
                    | none => exact ⟨n, .inr ⟨rfl, rfl⟩⟩
                    | some i => exact ⟨i, .inl rfl⟩
                  have ct := take_out py.ow.tab zn (by simp [be]; omega)
                  go_upto_block 7 with (go_at_call 7; refine ct.mono ?_; rintro r w8 ⟨rfl, b⟩; replace py := py.below b; replace ac := ac.below b; clear b z0 z1 z2; obtain ⟨z0, z1, z2⟩ := ac.cells; have l3 := py.ow.cfg.cells.2.2.2.1; have l0 := py.ow.cfg.cells.1)
                  clear ct
                  go_cut [19] (fun v wx => v = .int .i64 (at_ : Nat) ∧ wx = w8)
                  case first =>
                    as_aux_lemma =>
                    go_wp2_with fail
                    go_loop [19] (fun v => ∃ m : Nat, m ≤ n ∧ v = .int .i64 m ∧ ∀ x, x < m → frE (A.getD x (0, 0)) = false) (fun v => n - (intOf v).toNat)
                    case atStart => exact ⟨0, Nat.zero_le _, rfl, fun x hx => by omega⟩
                    case round =>
                      as_aux_lemma =>
                      obtain ⟨m, hm, rfl, hmf⟩ := hrel
                      by_cases hmn : m < n
                      · as_aux_lemma =>
                        have e1 := py.rw.t (i := m) (by omega)
                        have e2 := py.rw.s (i := m) (by omega)
                        have hen := hok (A.getD m (0, 0)) (by rw [show A.getD m (0, 0) = A[m]'(by omega) by simp [List.getD, hAl, hmn]]; exact List.getElem_mem _)
                        have hs := hen.s
                        have ht := hen.t
                        have hfd : frE (A.getD m (0, 0)) = (decide ((A.getD m (0, 0)).2 = -1) && decide ((A.getD m (0, 0)).1 < 4294967295)) := rfl
                        have hnx : frE (A.getD m (0, 0)) = false → ∀ x, x < m + 1 → frE (A.getD x (0, 0)) = false := fun h x hx => by
                          rcases Nat.lt_succ_iff_lt_or_eq.1 hx with h1 | rfl
                          · exact hmf x h1
                          · exact h
                        have hex : frE (A.getD m (0, 0)) = true → at_ = m := fun h => by
                          have e := ff_is (by omega) h hmf
                          rcases hat with h1 | h1
                          · rw [h1] at e; cases e; rfl
                          · rw [h1.1] at e; cases e
                        clear hen hmf
                        generalize hfr : frE (A.getD m (0, 0)) = fr at *
                        clear hfr
                        generalize (A.getD m (0, 0)).1 = tgm at *
                        generalize (A.getD m (0, 0)).2 = slm at *
                        by_cases hsm : slm = -1
                        · as_aux_lemma =>
                          subst hsm
                          by_cases htm : tgm = 4294967295
                          · as_aux_lemma =>
                            subst htm
                            have hnf : fr = false := by rw [hfd]; rfl
                            go_wp2
                            go_round
                            case rel => exact ⟨m + 1, by omega, by go_num, hnx hnf⟩
                            case measure => simp [intOf]; omega
                          · as_aux_lemma =>
                            have hti : ¬ (tgm : Int) = 4294967295 := by omega
                            have hnf : fr = true := by rw [hfd, decide_eq_true (by omega : tgm < 4294967295)]; rfl
                            have hae := hex hnf
                            go_wp2
                            go_meet
                            case rel => exact ⟨by rw [hae], rfl⟩
                        · as_aux_lemma =>
                          have hs0 : 0 ≤ slm := by omega
                          have hnf : fr = false := by rw [hfd, decide_eq_false hsm, Bool.false_and]
                          clear hsm hs
                          go_wp2
                          go_round
                          case rel => exact ⟨m + 1, by omega, by go_num, hnx hnf⟩
                          case measure => simp [intOf]; omega
                      · as_aux_lemma =>
                        have hae : at_ = m := by
                          rcases hat with h1 | h1
                          · have := ff_lt h1
                            have := ff_at h1
                            rw [hmf at_ (by omega)] at this
                            cases this
                          · omega
                        clear hmf
                        go_wp2
                        go_meet
                        case rel => exact ⟨by rw [hae], rfl⟩
                  case rest =>
                    as_aux_lemma =>
                    obtain ⟨rfl, rfl⟩ := hcut
                    by_cases hai : (at_ : Int) = (n : Int)
                    · as_aux_lemma =>
                      go_wp2
                      go_meet
                      case rel => exact ⟨A, T, by omega, py⟩
                    go_wp2
                    all_goals
                      go_meet
                      case rel => exact ⟨A, T, by omega, py⟩

              · as_aux_lemma =>
                obtain ⟨at_, hat⟩ : ∃ at_ : Nat, ff A = some at_ ∨ (ff A = none ∧ at_ = n) := by
                  cases ff A with
                  | none => exact ⟨n, .inr ⟨rfl, rfl⟩⟩
                  | some i => exact ⟨i, .inl rfl⟩
                have hzn : zn < 0 := by omega
                have ct := take_out py.ow.tab zn (by simp [be]; omega)
                go_upto_block 7 with (go_at_call 7; refine ct.mono ?_; rintro r w8 ⟨rfl, b⟩; replace py := py.below b; replace ac := ac.below b; clear b z0 z1 z2; obtain ⟨z0, z1, z2⟩ := ac.cells; have l3 := py.ow.cfg.cells.2.2.2.1; have l0 := py.ow.cfg.cells.1)
                clear ct
                go_cut [19] (fun v wx => v = .int .i64 (at_ : Nat) ∧ wx = w8)
                case first =>
                  as_aux_lemma =>
                  go_wp2_with fail
                  go_loop [19] (fun v => ∃ m : Nat, m ≤ n ∧ v = .int .i64 m ∧ ∀ x, x < m → frE (A.getD x (0, 0)) = false) (fun v => n - (intOf v).toNat)
                  case atStart => exact ⟨0, Nat.zero_le _, rfl, fun x hx => by omega⟩
                  case round =>
                    as_aux_lemma =>
                    obtain ⟨m, hm, rfl, hmf⟩ := hrel
                    by_cases hmn : m < n
                    · as_aux_lemma =>
                      have e1 := py.rw.t (i := m) (by omega)
                      have e2 := py.rw.s (i := m) (by omega)
                      have hen := hok (A.getD m (0, 0)) (by rw [show A.getD m (0, 0) = A[m]'(by omega) by simp [List.getD, hAl, hmn]]; exact List.getElem_mem _)
                      have hs := hen.s
                      have ht := hen.t
                      have hfd : frE (A.getD m (0, 0)) = (decide ((A.getD m (0, 0)).2 = -1) && decide ((A.getD m (0, 0)).1 < 4294967295)) := rfl
                      have hnx : frE (A.getD m (0, 0)) = false → ∀ x, x < m + 1 → frE (A.getD x (0, 0)) = false := fun h x hx => by
                        rcases Nat.lt_succ_iff_lt_or_eq.1 hx with h1 | rfl
                        · exact hmf x h1
                        · exact h
                      have hex : frE (A.getD m (0, 0)) = true → at_ = m := fun h => by
                        have e := ff_is (by omega) h hmf
                        rcases hat with h1 | h1
                        · rw [h1] at e; cases e; rfl
                        · rw [h1.1] at e; cases e
                      clear hen hmf
                      generalize hfr : frE (A.getD m (0, 0)) = fr at *
                      clear hfr
                      generalize (A.getD m (0, 0)).1 = tgm at *
                      generalize (A.getD m (0, 0)).2 = slm at *
                      by_cases hsm : slm = -1
                      · as_aux_lemma =>
                        subst hsm
                        by_cases htm : tgm = 4294967295
                        · as_aux_lemma =>
                          subst htm
                          have hnf : fr = false := by rw [hfd]; rfl
                          go_wp2
                          go_round
                          case rel => exact ⟨m + 1, by omega, by go_num, hnx hnf⟩
                          case measure => simp [intOf]; omega
                        · as_aux_lemma =>
                          have hti : ¬ (tgm : Int) = 4294967295 := by omega
                          have hnf : fr = true := by rw [hfd, decide_eq_true (by omega : tgm < 4294967295)]; rfl
                          have hae := hex hnf
                          go_wp2
                          go_meet
                          case rel => exact ⟨by rw [hae], rfl⟩
                      · as_aux_lemma =>
                        have hs0 : 0 ≤ slm := by omega
                        have hnf : fr = false := by rw [hfd, decide_eq_false hsm, Bool.false_and]
                        clear hsm hs
                        go_wp2
                        go_round
                        case rel => exact ⟨m + 1, by omega, by go_num, hnx hnf⟩
                        case measure => simp [intOf]; omega
                    · as_aux_lemma =>
                      have hae : at_ = m := by
                        rcases hat with h1 | h1
                        · have := ff_lt h1
                          have := ff_at h1
                          rw [hmf at_ (by omega)] at this
                          cases this
                        · omega
                      clear hmf
                      go_wp2
                      go_meet
                      case rel => exact ⟨by rw [hae], rfl⟩
                case rest =>
                  as_aux_lemma =>
                  obtain ⟨rfl, rfl⟩ := hcut
                  by_cases hai : (at_ : Int) = (n : Int)
                  · as_aux_lemma =>
                    go_wp2
                    go_meet
                    case rel => exact ⟨A, T, by omega, py⟩
                  go_wp2
                  all_goals
                    go_meet
                    case rel => exact ⟨A, T, by omega, py⟩


            · as_aux_lemma =>
              by_cases hk1 : zk = 1
              · as_aux_lemma =>
                subst hk1
                have l3 := py.ow.cfg.cells.2.2.2.1
                by_cases hz : 0 ≤ zn
                · as_aux_lemma =>
                  by_cases hzn : zn < (n : Int)
                  · as_aux_lemma =>
                    obtain ⟨dx, rfl⟩ : ∃ dx : Nat, zn = (dx : Int) := ⟨zn.toNat, by omega⟩
                    have hdl : dx < A.length := by omega
                    have cd := drop_in py.ow.tab dx hdl rfl
                    have hen := hok (A.getD dx (0, 0)) (by rw [show A.getD dx (0, 0) = A[dx] by simp [List.getD, hdl]]; exact List.getElem_mem _)
                    have hs := hen.s
                    obtain ⟨x, hx⟩ : ∃ x, A.getD dx (0, 0) = x := ⟨_, rfl⟩
                    have hset : x.2 = -1 → A.set dx (x.1, -1) = A := fun h => set_same A dx _ (fun _ => by rw [hx, ← h])
                    have cd2 : Calls Try.prog 9 #[.pointer (some ⟨P, 0, none⟩), .int .i64 (dx : Nat)] wq fun e w' => e = .returned (.bool (decide (x.2 ≠ -1))) ∧ IsTab w' P R ⟨S, a, c, n, g, k, who, A.set dx (x.1, -1)⟩ ∧ Chg [R] wq w' := by rw [← hx]; exact cd
                    rw [hx] at hs
                    clear cd hen
                    by_cases hsx : x.2 = -1
                    · as_aux_lemma =>
                      rw [hset hsx, decide_eq_false (by simp [hsx])] at cd2
                      clear hset
                      go_upto_region 50 with (go_at_call 9; refine cd2.mono ?_; rintro r w8 ⟨rfl, ht, ch⟩; replace py := py.chg ch ht; replace ac := ac.chg ch (by have := py.hb; simp; omega))
                      clear cd2 ht ch z0 z1 z2 l3
                      obtain ⟨z0, z1, z2⟩ := ac.cells
                      have l3 := py.ow.cfg.cells.2.2.2.1
                      have e2 := py.rw.s hdl
                      rw [hx, hsx] at e2
                      go_wp2
                      go_meet
                      case rel => exact ⟨A, T, by omega, py⟩
                    · as_aux_lemma =>
                      rw [decide_eq_true hsx] at cd2
                      have hs0 : 0 ≤ x.2 := by omega
                      go_upto_region 50 with (go_at_call 9; refine cd2.mono ?_; rintro r w8 ⟨rfl, ht, ch⟩; replace py := py.chg ch ht; replace ac := ac.chg ch (by have := py.hb; simp; omega))
                      clear cd2 ht ch z0 z1 z2 l3 hset
                      obtain ⟨z0, z1, z2⟩ := ac.cells
                      have l3 := py.ow.cfg.cells.2.2.2.1
                      have e2 := py.rw.s hdl
                      rw [hx] at e2
                      have f2 := py.rw.fF dx
                      generalize x.2 = sx at *
                      have p2 := py.setS dx (-1)
                      rw [hx] at p2
                      have P2 : Hid (Py w (w8.setCell ⟨F, dx, none⟩ (.int .i64 (-1))) ⟨S, a, c, n, g, k, who, A.set dx (x.1, -1)⟩ P R G F base (A.set dx (x.1, -1)) (.slice av T.length cv) T) := p2
                      clear p2 hs hsx
                      go_wp2
                      go_meet
                      case rel => exact ⟨_, T, by omega, P2.out⟩
                  · as_aux_lemma =>
                    have hzn2 : (n : Int) ≤ zn := by omega
                    have cd := drop_out py.ow.tab zn (by simp [be, hAl]; omega)
                    go_wp2_with (go_at_call 9; refine cd.mono ?_; rintro r w8 ⟨rfl, rfl⟩)
                    go_meet
                    case rel => exact ⟨A, T, by omega, py⟩

                · as_aux_lemma =>
                  have hzn : zn < 0 := by omega
                  have cd := drop_out py.ow.tab zn (by simp [be, hAl]; omega)
                  go_wp2_with (go_at_call 9; refine cd.mono ?_; rintro r w8 ⟨rfl, rfl⟩)
                  go_meet
                  case rel => exact ⟨A, T, by omega, py⟩


              · as_aux_lemma =>
                have hk0' : (zk == 0) = false := by simpa using hk0
                have hk1' : (zk == 1) = false := by simpa using hk1
                clear hk0 hk1
                by_cases hTl : T.length = 0
                · as_aux_lemma =>
                  have hT0 : ¬ (0 : Int) < (T.length : Int) := by omega
                  clear hTl
                  have cf := find_any py.ow.tab zr hrr
                  have htok := py.ow.tab.ok
                  obtain ⟨t, ht⟩ : ∃ t : Tb, (⟨S, a, c, n, g, k, who, A⟩ : Tb) = t := ⟨_, rfl⟩
                  have htA : t.A = A := by rw [← ht]
                  have htw : t.who = who := by rw [← ht]
                  obtain ⟨aI, haI⟩ : ∃ aI : Int, (if fdOk t zr = true then fdI t zr else -1) = aI := ⟨_, rfl⟩
                  have hno : (∀ x, x < n → ¬ mtE t zr x) → aI = -1 := fun h => by
                    cases e : fdOk t zr
                    · rw [e] at haI; exact haI.symm
                    · obtain ⟨x, h1, h2⟩ := fd_mtE e
                      rw [htA] at h1
                      exact absurd h2 (h x (by omega))
                  have hyes : ∀ x, x < n → mtE t zr x → aI = (x : Int) ∧ fdOk t zr = true ∧ fdI t zr = (x : Int) ∧ fdS t zr = (A.getD x (0, 0)).2 := fun x h1 h2 => by
                    have := mtE_fd (by rw [← ht]; exact htok) (by rw [htA]; omega) h2
                    rw [this.1] at haI
                    rw [htA] at this
                    exact ⟨by rw [← haI]; exact this.2.1, this⟩
                  have hmt : ∀ x, mtE t zr x ↔ (Tg.hOk who (x : Int) (A.getD x (0, 0)).1 = true ∧ Tg.hW who (x : Int) (A.getD x (0, 0)).1 = zr ∧ (A.getD x (0, 0)).2 ≠ -1) := fun x => by unfold mtE; rw [htA, htw]
                  rw [ht] at cf
                  have hfd := fd_no (t := t) (x := zr)
                  have HF : Hid (fdOk t zr = false → fdI t zr = 0 ∧ fdS t zr = 0 ∧ aI = -1) := fun h => ⟨(hfd h).1, (hfd h).2, by rw [h] at haI; exact haI.symm⟩
                  have HT : Hid (fdOk t zr = true → ∃ x, x < n ∧ aI = (x : Int) ∧ fdI t zr = (x : Int) ∧ fdS t zr = (A.getD x (0, 0)).2) := fun h => by
                    obtain ⟨x, h1, h2⟩ := fd_mtE h
                    rw [htA] at h1
                    have := hyes x (by omega) h2
                    exact ⟨x, by omega, this.1, this.2.2.1, this.2.2.2⟩
                  replace hyes := fun x h1 h2 => (hyes x h1 h2).1
                  clear hfd haI htok htw htA
                  generalize mtE t zr = mt at *
                  generalize fdI t zr = fI at *
                  generalize fdS t zr = fS at *
                  generalize fdOk t zr = fO at *
                  clear ht
                  go_upto_block 5 with (go_at_call 10; with_reducible refine cf.mono ?_; rintro r w8 ⟨rfl, b⟩; replace py := py.below b; clear b z0 z1 z2; have l3 := py.ow.cfg.cells.2.2.2.1)
                  clear cf hcs
                  go_cut [28] (fun v wx => v = .int .i64 aI ∧ wx = w8)
                  case first =>
                    as_aux_lemma =>
                    go_wp2_with fail
                    go_loop [28, 29] (fun v u => ∃ m : Nat, m ≤ n ∧ u = .int .i64 m ∧ (((∀ x, x < m → ¬ mt x) ∧ v = .int .i64 (-1)) ∨ ∃ x : Nat, x < m ∧ mt x ∧ v = .int .i64 (x : Nat))) (fun _ u => n - (intOf u).toNat)
                    case atStart => exact ⟨0, Nat.zero_le _, rfl, .inl ⟨fun x hx => by omega, rfl⟩⟩
                    case round =>
                      as_aux_lemma =>
                      obtain ⟨m, hm, rfl, hmv⟩ := hrel
                      by_cases hmn : m < n
                      · as_aux_lemma =>
                        have e1 := py.rw.t (i := m) (by omega)
                        have e2 := py.rw.s (i := m) (by omega)
                        have hen := hok (A.getD m (0, 0)) (by rw [show A.getD m (0, 0) = A[m]'(by omega) by simp [List.getD, hAl, hmn]]; exact List.getElem_mem _)
                        have hs := hen.s
                        have cr := Tg.rhandle_any who m (A.getD m (0, 0)).1 (by have := hen.t; omega)
                        have hmm := hmt m
                        have hnx : ¬ mt m → ∀ v : Value, (((∀ x, x < m → ¬ mt x) ∧ v = .int .i64 (-1)) ∨ ∃ x : Nat, x < m ∧ mt x ∧ v = .int .i64 (x : Nat)) → (((∀ x, x < m + 1 → ¬ mt x) ∧ v = .int .i64 (-1)) ∨ ∃ x : Nat, x < m + 1 ∧ mt x ∧ v = .int .i64 (x : Nat)) := fun h v hv => by
                          rcases hv with ⟨h1, h2⟩ | ⟨x, h1, h2, h3⟩
                          · refine .inl ⟨fun x hx => ?_, h2⟩
                            rcases Nat.lt_succ_iff_lt_or_eq.1 hx with h3 | rfl
                            · exact h1 x h3
                            · exact h
                          · exact .inr ⟨x, by omega, h2, h3⟩
                        clear hen
                        generalize (A.getD m (0, 0)).1 = tgm at *
                        generalize (A.getD m (0, 0)).2 = slm at *
                        generalize Tg.hW who (m : Int) tgm = Wm at *
                        generalize Tg.hOk who (m : Int) tgm = Om at *
                        cases Om
                        · as_aux_lemma =>
                          have hq : ¬ mt m := fun h => by have := (hmm.1 h).1; cases this
                          clear hmm hmt hno hyes
                          go_wp2_with (go_at_call 8; refine (cr _).mono ?_; rintro r w9 ⟨rfl, rfl⟩)
                          go_round
                          case rel => exact ⟨m + 1, by omega, by go_num, hnx hq _ hmv⟩
                          case measure => simp [intOf]; omega
                        · as_aux_lemma =>
                          by_cases hWX : Wm = zr
                          · as_aux_lemma =>
                            by_cases hsm : slm = -1
                            · as_aux_lemma =>
                              have hq : ¬ mt m := fun h => (hmm.1 h).2.2 hsm
                              subst hsm
                              clear hmm hmt hno hyes
                              subst hWX
                              go_wp2_with (go_at_call 8; refine (cr _).mono ?_; rintro r w9 ⟨rfl, rfl⟩)
                              go_round
                              case rel => exact ⟨m + 1, by omega, by go_num, hnx hq _ hmv⟩
                              case measure => simp [intOf]; omega
                            · as_aux_lemma =>
                              have hq : mt m := hmm.2 ⟨rfl, hWX, hsm⟩
                              have hs0 : 0 ≤ slm := by omega
                              clear hmm hmt hno hyes hsm hs hnx
                              subst hWX
                              go_wp2_with (go_at_call 8; refine (cr _).mono ?_; rintro r w9 ⟨rfl, rfl⟩)
                              go_round
                              case rel => exact ⟨m + 1, by omega, by go_num, .inr ⟨m, by omega, hq, rfl⟩⟩
                              case measure => simp [intOf]; omega
                          · as_aux_lemma =>
                            have hq : ¬ mt m := fun h => hWX (hmm.1 h).2.1
                            have hWi : ¬ (Wm : Int) = (zr : Int) := by omega
                            clear hmm hmt hno hyes hWX
                            go_wp2_with (go_at_call 8; refine (cr _).mono ?_; rintro r w9 ⟨rfl, rfl⟩)
                            go_round
                            case rel => exact ⟨m + 1, by omega, by go_num, hnx hq _ hmv⟩
                            case measure => simp [intOf]; omega
                      · as_aux_lemma =>
                        obtain rfl : m = n := by omega
                        rcases hmv with ⟨h1, rfl⟩ | ⟨x, h1, h2, rfl⟩
                        · as_aux_lemma =>
                          have e := hno h1
                          clear hmt hno hyes h1
                          go_wp2
                          go_meet
                          case rel => exact ⟨by rw [e], rfl⟩
                        · as_aux_lemma =>
                          have e := hyes x h1 h2
                          clear hmt hno hyes h2
                          go_wp2
                          go_meet
                          case rel => exact ⟨by rw [e], rfl⟩
                  case rest =>
                    as_aux_lemma =>
                    obtain ⟨rfl, rfl⟩ := hcut
                    clear hmt hno hyes
                    cases fO
                    · as_aux_lemma =>
                      obtain ⟨rfl, rfl, rfl⟩ := HF.out rfl
                      clear HF HT
                      go_wp2
                      go_meet
                      case rel => exact ⟨A, T, by omega, py⟩
                    · as_aux_lemma =>
                      obtain ⟨x, hx, rfl, rfl, rfl⟩ := HT.out rfl
                      clear HF HT
                      have e2 := py.rw.s (i := x) (by omega)
                      generalize (A.getD x (0, 0)).2 = sx at *
                      have hx0 : ¬ (x : Int) < 0 := by omega
                      go_wp2
                      go_meet
                      case rel => exact ⟨A, T, by omega, py⟩

                · as_aux_lemma =>
                  by_cases hz : 0 ≤ zn
                  · as_aux_lemma =>
                    obtain ⟨rx, hrx, hrT⟩ : ∃ rx : Nat, zn.tmod (T.length : Int) = (rx : Int) ∧ rx < T.length := by
                      rw [Int.tmod_eq_emod_of_nonneg hz]
                      have q1 := Int.emod_nonneg zn (show (T.length : Int) ≠ 0 by omega)
                      have q2 := Int.emod_lt_of_pos zn (show (0 : Int) < T.length by omega)
                      exact ⟨(zn % (T.length : Int)).toNat, by omega, by omega⟩
                    obtain ⟨gg, rfl, hcm⟩ := hcs rx hrT
                    obtain ⟨X, hX⟩ : ∃ X, T.getD rx 0 = X := ⟨_, rfl⟩
                    have hcX : wq.cell? ⟨gg, rx, none⟩ = some (.int .u64 (X : Nat)) := by rw [hcm, ← hX]; simp [uvals, List.getD, hrT]
                    have hXl : X < 18446744073709551616 := by
                      rw [← hX, show T.getD rx 0 = T[rx] by simp [List.getD, hrT]]
                      exact py.lt _ (List.getElem_mem hrT)
                    have hT1 : ¬ (T.length : Int) = 0 := by omega
                    have hT2 : (0 : Int) < (T.length : Int) := by omega
                    have hri : (rx : Int) < (T.length : Int) := by omega
                    clear hcm hX
                    have cf := find_any py.ow.tab X hXl
                    have htok := py.ow.tab.ok
                    obtain ⟨t, ht⟩ : ∃ t : Tb, (⟨S, a, c, n, g, k, who, A⟩ : Tb) = t := ⟨_, rfl⟩
                    have htA : t.A = A := by rw [← ht]
                    have htw : t.who = who := by rw [← ht]
                    obtain ⟨aI, haI⟩ : ∃ aI : Int, (if fdOk t X = true then fdI t X else -1) = aI := ⟨_, rfl⟩
                    have hno : (∀ x, x < n → ¬ mtE t X x) → aI = -1 := fun h => by
                      cases e : fdOk t X
                      · rw [e] at haI; exact haI.symm
                      · obtain ⟨x, h1, h2⟩ := fd_mtE e
                        rw [htA] at h1
                        exact absurd h2 (h x (by omega))
                    have hyes : ∀ x, x < n → mtE t X x → aI = (x : Int) ∧ fdOk t X = true ∧ fdI t X = (x : Int) ∧ fdS t X = (A.getD x (0, 0)).2 := fun x h1 h2 => by
                      have := mtE_fd (by rw [← ht]; exact htok) (by rw [htA]; omega) h2
                      rw [this.1] at haI
                      rw [htA] at this
                      exact ⟨by rw [← haI]; exact this.2.1, this⟩
                    have hmt : ∀ x, mtE t X x ↔ (Tg.hOk who (x : Int) (A.getD x (0, 0)).1 = true ∧ Tg.hW who (x : Int) (A.getD x (0, 0)).1 = X ∧ (A.getD x (0, 0)).2 ≠ -1) := fun x => by unfold mtE; rw [htA, htw]
                    rw [ht] at cf
                    have hfd := fd_no (t := t) (x := X)
                    have HF : Hid (fdOk t X = false → fdI t X = 0 ∧ fdS t X = 0 ∧ aI = -1) := fun h => ⟨(hfd h).1, (hfd h).2, by rw [h] at haI; exact haI.symm⟩
                    have HT : Hid (fdOk t X = true → ∃ x, x < n ∧ aI = (x : Int) ∧ fdI t X = (x : Int) ∧ fdS t X = (A.getD x (0, 0)).2) := fun h => by
                      obtain ⟨x, h1, h2⟩ := fd_mtE h
                      rw [htA] at h1
                      have := hyes x (by omega) h2
                      exact ⟨x, by omega, this.1, this.2.2.1, this.2.2.2⟩
                    replace hyes := fun x h1 h2 => (hyes x h1 h2).1
                    clear hfd haI htok htw htA
                    generalize mtE t X = mt at *
                    generalize fdI t X = fI at *
                    generalize fdS t X = fS at *
                    generalize fdOk t X = fO at *
                    clear ht
                    go_upto_block 5 with (go_at_call 10; with_reducible refine cf.mono ?_; rintro r w8 ⟨rfl, b⟩; replace py := py.below b; clear b z0 z1 z2; have l3 := py.ow.cfg.cells.2.2.2.1)
                    clear cf hcs
                    go_cut [28] (fun v wx => v = .int .i64 aI ∧ wx = w8)
                    case first =>
                      as_aux_lemma =>
                      go_wp2_with fail
                      go_loop [28, 29] (fun v u => ∃ m : Nat, m ≤ n ∧ u = .int .i64 m ∧ (((∀ x, x < m → ¬ mt x) ∧ v = .int .i64 (-1)) ∨ ∃ x : Nat, x < m ∧ mt x ∧ v = .int .i64 (x : Nat))) (fun _ u => n - (intOf u).toNat)
                      case atStart => exact ⟨0, Nat.zero_le _, rfl, .inl ⟨fun x hx => by omega, rfl⟩⟩
                      case round =>
                        as_aux_lemma =>
                        obtain ⟨m, hm, rfl, hmv⟩ := hrel
                        by_cases hmn : m < n
                        · as_aux_lemma =>
                          have e1 := py.rw.t (i := m) (by omega)
                          have e2 := py.rw.s (i := m) (by omega)
                          have hen := hok (A.getD m (0, 0)) (by rw [show A.getD m (0, 0) = A[m]'(by omega) by simp [List.getD, hAl, hmn]]; exact List.getElem_mem _)
                          have hs := hen.s
                          have cr := Tg.rhandle_any who m (A.getD m (0, 0)).1 (by have := hen.t; omega)
                          have hmm := hmt m
                          have hnx : ¬ mt m → ∀ v : Value, (((∀ x, x < m → ¬ mt x) ∧ v = .int .i64 (-1)) ∨ ∃ x : Nat, x < m ∧ mt x ∧ v = .int .i64 (x : Nat)) → (((∀ x, x < m + 1 → ¬ mt x) ∧ v = .int .i64 (-1)) ∨ ∃ x : Nat, x < m + 1 ∧ mt x ∧ v = .int .i64 (x : Nat)) := fun h v hv => by
                            rcases hv with ⟨h1, h2⟩ | ⟨x, h1, h2, h3⟩
                            · refine .inl ⟨fun x hx => ?_, h2⟩
                              rcases Nat.lt_succ_iff_lt_or_eq.1 hx with h3 | rfl
                              · exact h1 x h3
                              · exact h
                            · exact .inr ⟨x, by omega, h2, h3⟩
                          clear hen
                          generalize (A.getD m (0, 0)).1 = tgm at *
                          generalize (A.getD m (0, 0)).2 = slm at *
                          generalize Tg.hW who (m : Int) tgm = Wm at *
                          generalize Tg.hOk who (m : Int) tgm = Om at *
                          cases Om
                          · as_aux_lemma =>
                            have hq : ¬ mt m := fun h => by have := (hmm.1 h).1; cases this
                            clear hmm hmt hno hyes
                            go_wp2_with (go_at_call 8; refine (cr _).mono ?_; rintro r w9 ⟨rfl, rfl⟩)
                            go_round
                            case rel => exact ⟨m + 1, by omega, by go_num, hnx hq _ hmv⟩
                            case measure => simp [intOf]; omega
                          · as_aux_lemma =>
                            by_cases hWX : Wm = X
                            · as_aux_lemma =>
                              by_cases hsm : slm = -1
                              · as_aux_lemma =>
                                have hq : ¬ mt m := fun h => (hmm.1 h).2.2 hsm
                                subst hsm
                                clear hmm hmt hno hyes
                                subst hWX
                                go_wp2_with (go_at_call 8; refine (cr _).mono ?_; rintro r w9 ⟨rfl, rfl⟩)
                                go_round
                                case rel => exact ⟨m + 1, by omega, by go_num, hnx hq _ hmv⟩
                                case measure => simp [intOf]; omega
                              · as_aux_lemma =>
                                have hq : mt m := hmm.2 ⟨rfl, hWX, hsm⟩
                                have hs0 : 0 ≤ slm := by omega
                                clear hmm hmt hno hyes hsm hs hnx
                                subst hWX
                                go_wp2_with (go_at_call 8; refine (cr _).mono ?_; rintro r w9 ⟨rfl, rfl⟩)
                                go_round
                                case rel => exact ⟨m + 1, by omega, by go_num, .inr ⟨m, by omega, hq, rfl⟩⟩
                                case measure => simp [intOf]; omega
                            · as_aux_lemma =>
                              have hq : ¬ mt m := fun h => hWX (hmm.1 h).2.1
                              have hWi : ¬ (Wm : Int) = (X : Int) := by omega
                              clear hmm hmt hno hyes hWX
                              go_wp2_with (go_at_call 8; refine (cr _).mono ?_; rintro r w9 ⟨rfl, rfl⟩)
                              go_round
                              case rel => exact ⟨m + 1, by omega, by go_num, hnx hq _ hmv⟩
                              case measure => simp [intOf]; omega
                        · as_aux_lemma =>
                          obtain rfl : m = n := by omega
                          rcases hmv with ⟨h1, rfl⟩ | ⟨x, h1, h2, rfl⟩
                          · as_aux_lemma =>
                            have e := hno h1
                            clear hmt hno hyes h1
                            go_wp2
                            go_meet
                            case rel => exact ⟨by rw [e], rfl⟩
                          · as_aux_lemma =>
                            have e := hyes x h1 h2
                            clear hmt hno hyes h2
                            go_wp2
                            go_meet
                            case rel => exact ⟨by rw [e], rfl⟩
                    case rest =>
                      as_aux_lemma =>
                      obtain ⟨rfl, rfl⟩ := hcut
                      clear hmt hno hyes
                      cases fO
                      · as_aux_lemma =>
                        obtain ⟨rfl, rfl, rfl⟩ := HF.out rfl
                        clear HF HT
                        go_wp2
                        go_meet
                        case rel => exact ⟨A, T, by omega, py⟩
                      · as_aux_lemma =>
                        obtain ⟨x, hx, rfl, rfl, rfl⟩ := HT.out rfl
                        clear HF HT
                        have e2 := py.rw.s (i := x) (by omega)
                        generalize (A.getD x (0, 0)).2 = sx at *
                        have hx0 : ¬ (x : Int) < 0 := by omega
                        go_wp2
                        go_meet
                        case rel => exact ⟨A, T, by omega, py⟩

                  · as_aux_lemma =>
                    have hz2 : zn < 0 := by omega
                    have hT2 : (0 : Int) < (T.length : Int) := by omega
                    have cf := find_any py.ow.tab zr hrr
                    have htok := py.ow.tab.ok
                    obtain ⟨t, ht⟩ : ∃ t : Tb, (⟨S, a, c, n, g, k, who, A⟩ : Tb) = t := ⟨_, rfl⟩
                    have htA : t.A = A := by rw [← ht]
                    have htw : t.who = who := by rw [← ht]
                    obtain ⟨aI, haI⟩ : ∃ aI : Int, (if fdOk t zr = true then fdI t zr else -1) = aI := ⟨_, rfl⟩
                    have hno : (∀ x, x < n → ¬ mtE t zr x) → aI = -1 := fun h => by
                      cases e : fdOk t zr
                      · rw [e] at haI; exact haI.symm
                      · obtain ⟨x, h1, h2⟩ := fd_mtE e
                        rw [htA] at h1
                        exact absurd h2 (h x (by omega))
                    have hyes : ∀ x, x < n → mtE t zr x → aI = (x : Int) ∧ fdOk t zr = true ∧ fdI t zr = (x : Int) ∧ fdS t zr = (A.getD x (0, 0)).2 := fun x h1 h2 => by
                      have := mtE_fd (by rw [← ht]; exact htok) (by rw [htA]; omega) h2
                      rw [this.1] at haI
                      rw [htA] at this
                      exact ⟨by rw [← haI]; exact this.2.1, this⟩
                    have hmt : ∀ x, mtE t zr x ↔ (Tg.hOk who (x : Int) (A.getD x (0, 0)).1 = true ∧ Tg.hW who (x : Int) (A.getD x (0, 0)).1 = zr ∧ (A.getD x (0, 0)).2 ≠ -1) := fun x => by unfold mtE; rw [htA, htw]
                    rw [ht] at cf
                    have hfd := fd_no (t := t) (x := zr)
                    have HF : Hid (fdOk t zr = false → fdI t zr = 0 ∧ fdS t zr = 0 ∧ aI = -1) := fun h => ⟨(hfd h).1, (hfd h).2, by rw [h] at haI; exact haI.symm⟩
                    have HT : Hid (fdOk t zr = true → ∃ x, x < n ∧ aI = (x : Int) ∧ fdI t zr = (x : Int) ∧ fdS t zr = (A.getD x (0, 0)).2) := fun h => by
                      obtain ⟨x, h1, h2⟩ := fd_mtE h
                      rw [htA] at h1
                      have := hyes x (by omega) h2
                      exact ⟨x, by omega, this.1, this.2.2.1, this.2.2.2⟩
                    replace hyes := fun x h1 h2 => (hyes x h1 h2).1
                    clear hfd haI htok htw htA
                    generalize mtE t zr = mt at *
                    generalize fdI t zr = fI at *
                    generalize fdS t zr = fS at *
                    generalize fdOk t zr = fO at *
                    clear ht
                    go_upto_block 5 with (go_at_call 10; with_reducible refine cf.mono ?_; rintro r w8 ⟨rfl, b⟩; replace py := py.below b; clear b z0 z1 z2; have l3 := py.ow.cfg.cells.2.2.2.1)
                    clear cf hcs
                    go_cut [28] (fun v wx => v = .int .i64 aI ∧ wx = w8)
                    case first =>
                      as_aux_lemma =>
                      go_wp2_with fail
                      go_loop [28, 29] (fun v u => ∃ m : Nat, m ≤ n ∧ u = .int .i64 m ∧ (((∀ x, x < m → ¬ mt x) ∧ v = .int .i64 (-1)) ∨ ∃ x : Nat, x < m ∧ mt x ∧ v = .int .i64 (x : Nat))) (fun _ u => n - (intOf u).toNat)
                      case atStart => exact ⟨0, Nat.zero_le _, rfl, .inl ⟨fun x hx => by omega, rfl⟩⟩
                      case round =>
                        as_aux_lemma =>
                        obtain ⟨m, hm, rfl, hmv⟩ := hrel
                        by_cases hmn : m < n
                        · as_aux_lemma =>
                          have e1 := py.rw.t (i := m) (by omega)
                          have e2 := py.rw.s (i := m) (by omega)
                          have hen := hok (A.getD m (0, 0)) (by rw [show A.getD m (0, 0) = A[m]'(by omega) by simp [List.getD, hAl, hmn]]; exact List.getElem_mem _)
                          have hs := hen.s
                          have cr := Tg.rhandle_any who m (A.getD m (0, 0)).1 (by have := hen.t; omega)
                          have hmm := hmt m
                          have hnx : ¬ mt m → ∀ v : Value, (((∀ x, x < m → ¬ mt x) ∧ v = .int .i64 (-1)) ∨ ∃ x : Nat, x < m ∧ mt x ∧ v = .int .i64 (x : Nat)) → (((∀ x, x < m + 1 → ¬ mt x) ∧ v = .int .i64 (-1)) ∨ ∃ x : Nat, x < m + 1 ∧ mt x ∧ v = .int .i64 (x : Nat)) := fun h v hv => by
                            rcases hv with ⟨h1, h2⟩ | ⟨x, h1, h2, h3⟩
                            · refine .inl ⟨fun x hx => ?_, h2⟩
                              rcases Nat.lt_succ_iff_lt_or_eq.1 hx with h3 | rfl
                              · exact h1 x h3
                              · exact h
                            · exact .inr ⟨x, by omega, h2, h3⟩
                          clear hen
                          generalize (A.getD m (0, 0)).1 = tgm at *
                          generalize (A.getD m (0, 0)).2 = slm at *
                          generalize Tg.hW who (m : Int) tgm = Wm at *
                          generalize Tg.hOk who (m : Int) tgm = Om at *
                          cases Om
                          · as_aux_lemma =>
                            have hq : ¬ mt m := fun h => by have := (hmm.1 h).1; cases this
                            clear hmm hmt hno hyes
                            go_wp2_with (go_at_call 8; refine (cr _).mono ?_; rintro r w9 ⟨rfl, rfl⟩)
                            go_round
                            case rel => exact ⟨m + 1, by omega, by go_num, hnx hq _ hmv⟩
                            case measure => simp [intOf]; omega
                          · as_aux_lemma =>
                            by_cases hWX : Wm = zr
                            · as_aux_lemma =>
                              by_cases hsm : slm = -1
                              · as_aux_lemma =>
                                have hq : ¬ mt m := fun h => (hmm.1 h).2.2 hsm
                                subst hsm
                                clear hmm hmt hno hyes
                                subst hWX
                                go_wp2_with (go_at_call 8; refine (cr _).mono ?_; rintro r w9 ⟨rfl, rfl⟩)
                                go_round
                                case rel => exact ⟨m + 1, by omega, by go_num, hnx hq _ hmv⟩
                                case measure => simp [intOf]; omega
                              · as_aux_lemma =>
                                have hq : mt m := hmm.2 ⟨rfl, hWX, hsm⟩
                                have hs0 : 0 ≤ slm := by omega
                                clear hmm hmt hno hyes hsm hs hnx
                                subst hWX
                                go_wp2_with (go_at_call 8; refine (cr _).mono ?_; rintro r w9 ⟨rfl, rfl⟩)
                                go_round
                                case rel => exact ⟨m + 1, by omega, by go_num, .inr ⟨m, by omega, hq, rfl⟩⟩
                                case measure => simp [intOf]; omega
                            · as_aux_lemma =>
                              have hq : ¬ mt m := fun h => hWX (hmm.1 h).2.1
                              have hWi : ¬ (Wm : Int) = (zr : Int) := by omega
                              clear hmm hmt hno hyes hWX
                              go_wp2_with (go_at_call 8; refine (cr _).mono ?_; rintro r w9 ⟨rfl, rfl⟩)
                              go_round
                              case rel => exact ⟨m + 1, by omega, by go_num, hnx hq _ hmv⟩
                              case measure => simp [intOf]; omega
                        · as_aux_lemma =>
                          obtain rfl : m = n := by omega
                          rcases hmv with ⟨h1, rfl⟩ | ⟨x, h1, h2, rfl⟩
                          · as_aux_lemma =>
                            have e := hno h1
                            clear hmt hno hyes h1
                            go_wp2
                            go_meet
                            case rel => exact ⟨by rw [e], rfl⟩
                          · as_aux_lemma =>
                            have e := hyes x h1 h2
                            clear hmt hno hyes h2
                            go_wp2
                            go_meet
                            case rel => exact ⟨by rw [e], rfl⟩
                    case rest =>
                      as_aux_lemma =>
                      obtain ⟨rfl, rfl⟩ := hcut
                      clear hmt hno hyes
                      cases fO
                      · as_aux_lemma =>
                        obtain ⟨rfl, rfl, rfl⟩ := HF.out rfl
                        clear HF HT
                        go_wp2
                        go_meet
                        case rel => exact ⟨A, T, by omega, py⟩
                      · as_aux_lemma =>
                        obtain ⟨x, hx, rfl, rfl, rfl⟩ := HT.out rfl
                        clear HF HT
                        have e2 := py.rw.s (i := x) (by omega)
                        generalize (A.getD x (0, 0)).2 = sx at *
                        have hx0 : ¬ (x : Int) < 0 := by omega
                        go_wp2
                        go_meet
                        case rel => exact ⟨A, T, by omega, py⟩


          case rest =>
            as_aux_lemma =>
            clear py ac z0 z1 z2 hcs hAl hok
            obtain ⟨A', T', hT', py⟩ := hcut
            have cs := same_any py.ow.tab py.rw (py.len rfl)
            obtain ⟨l0, l1, l2, l3, l4, l5⟩ := py.ow.cfg.cells
            go_wp2_with (go_at_call 11; refine cs.mono ?_; rintro r w8 ⟨rfl, b⟩; replace py := py.below b)
            go_roundw
            case rel => exact ⟨j + 1, A', T', by omega, by go_num, by omega, py⟩
            case measure => simp [intOf]; omega

        · as_aux_lemma =>
          go_wp2
          go_ret
          exact ⟨rfl, py.ow.bel⟩
end Go.Proofs.Ytnegdabcjnhpdaa
