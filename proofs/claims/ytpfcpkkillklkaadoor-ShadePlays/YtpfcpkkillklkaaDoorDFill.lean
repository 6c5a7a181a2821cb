/- A memory whose headers are given: the contract of filled. -/
import Derived.Test.YtpfcpkkillklkaaDoorDSem
import Derived.Test.YtpfcpkkillklkaaDoorDGrays
import Derived.BigRegion
namespace Go.Proofs.YtpfcpkkillklkaaDoor
open Go.RowKit
open Mm (IsMem IsWords MS touched Only zeroMS)
open Hh (WT okW whiteH wordOf Hr blackN usedK rightH IsHd)

/-- A header's six parts. -/
structure Hv where
  k : Int
  m : Int
  g : Bool
  a : Int
  n : Int
  s : Int
/-- Headers in a slice that is only read. -/
def RdH (w : World) (ad : Option Addr) (n : Nat) (H : Nat → Hv) : Prop := ∀ i, i < n → ∃ b off, ad = some ⟨b, off, none⟩ ∧ b < w.heap.size ∧
  w.cell? ⟨b, off + i * 6, none⟩ = some (.int .i64 (H i).k) ∧ w.cell? ⟨b, off + i * 6 + 1, none⟩ = some (.int .i64 (H i).m) ∧ w.cell? ⟨b, off + i * 6 + 2, none⟩ = some (.bool (H i).g) ∧ w.cell? ⟨b, off + i * 6 + 3, none⟩ = some (.int .i64 (H i).a) ∧ w.cell? ⟨b, off + i * 6 + 4, none⟩ = some (.int .i64 (H i).n) ∧ w.cell? ⟨b, off + i * 6 + 5, none⟩ = some (.int .i64 (H i).s)

structure Fl (w wr : World) (K : Cf) (R : Nat) (X : List Nat) : Prop where
  ws : IsWords wr R X
  cfg : IsCfg wr w.heap.size K.S K.a K.C K.D K.g K.k
  bel : Below w.heap.size w wr
  wt : WT wr
theorem Fl.below {w wr w' : World} {K : Cf} {R : Nat} {X : List Nat} (h : Fl w wr K R X) (b : Below wr.heap.size wr w') : Fl w w' K R X := ⟨words_below h.ws b, h.cfg.below b, seq_below h.bel b, h.wt.below b⟩
theorem Fl.set {w wr : World} {K : Cf} {R : Nat} {X : List Nat} (h : Fl w wr K R X) (hR : w.heap.size + 1 ≤ R) (i W : Nat) : Fl w (wr.setCell ⟨R, i, none⟩ (.int .u64 (W : Nat))) K R (X.set i W) :=
  ⟨words_stored h.ws i W _ rfl, cfg_stored h.cfg (by omega) _, h.bel.setCell (p := ⟨R, i, none⟩) (by omega : w.heap.size ≤ R) _, Hh.WT.set h.wt (by omega) _⟩
theorem hd_apart {w : World} {P R i : Nat} {k m : Int} {g : Bool} {a n s : Int} (h : IsHd w P k m g a n s) (hne : P ≠ R) (v : Value) : IsHd (w.setCell ⟨R, i, none⟩ v) P k m g a n s :=
  (Below.heap_setCell w ⟨R, i, none⟩ v P hne).trans h
theorem hd_c1 {w : World} {P : Nat} {k m : Int} {g : Bool} {a n s : Int} (h : IsHd w P k m g a n s) (g' : Bool) : (w.setCell ⟨P, 2, none⟩ (.bool g')).drew.cell? ⟨P, 1, none⟩ = some (.int .i64 m) :=
  (Hh.IsHd.below (w := w.setCell ⟨P, 2, none⟩ (.bool g')) (show IsHd _ P k m g' a n s from Hh.heap_setCell_at h _) (Below.refl _ _).drew).cells.2.1
theorem hd_c2 {w : World} {P : Nat} {k m : Int} {g : Bool} {a n s : Int} (h : IsHd w P k m g a n s) (g' : Bool) : (w.setCell ⟨P, 2, none⟩ (.bool g')).drew.cell? ⟨P, 2, none⟩ = some (.bool g') :=
  (Hh.IsHd.below (w := w.setCell ⟨P, 2, none⟩ (.bool g')) (show IsHd _ P k m g' a n s from Hh.heap_setCell_at h _) (Below.refl _ _).drew).cells.2.2.1
theorem fl_lt {X : List Nat} {B : Nat} (h : ∀ x ∈ X, x < B + 1) (i : Nat) : X.getD i 0 < B + 1 := by
  by_cases hi : i < X.length
  · have e : X.getD i 0 = X[i] := by simp [hi]
    rw [e]; exact h _ (List.getElem_mem hi)
  · have e : X.getD i 0 = 0 := by simp [hi]
    rw [e]; omega
theorem fl_set {X : List Nat} {B i W : Nat} (h : ∀ x ∈ X, x < B) (hW : W < B) : ∀ x ∈ X.set i W, x < B := fun x hx => by
  rcases List.mem_or_eq_of_mem_set hx with h1 | h1
  · exact h x h1
  · rw [h1]; exact hW
theorem right_nat {k m a n s : Int} (h : rightH k m a n s = true) : ∃ Kk Mk A Nn Sk : Nat, Hr Kk Mk A Nn Sk ∧ k = (Kk : Int) ∧ m = (Mk : Int) ∧ a = (A : Int) ∧ n = (Nn : Int) ∧ s = (Sk : Int) := by
  unfold Hh.rightH at h
  simp only [decide_eq_true_eq] at h
  obtain ⟨h1, h2, h3, h4, h5, h6, h7, h8, h9⟩ := h
  refine ⟨k.toNat, m.toNat, a.toNat, n.toNat, s.toNat, ⟨by omega, by omega, by omega, by omega, by omega⟩, by omega, by omega, by omega, by omega, by omega⟩
theorem gray_marked {Kk Mk A Nn Sk e : Nat} (g : Bool) (h : Hr Kk Mk A Nn Sk) (hg : g = true → (Mk : Int) = ((blackN e : Nat) : Int)) : grayW (wordOf Kk Mk g.toNat A Nn Sk) = true → canS (wordOf Kk Mk g.toNat A Nn Sk) e = false := by
  obtain ⟨_, p1, p2, _⟩ := Hh.word_parts g h
  unfold grayW canS
  rw [p1, p2]
  intro hx
  simp only [Bool.and_eq_true, decide_eq_true_eq] at hx
  have hgt : g = true := by cases g <;> simp_all
  have := hg hgt
  unfold Hh.whiteH
  rw [Hh.black_nat, this]
  simp
theorem gray_set {K : Cf} {X : List Nat} {e j W : Nat} (h : ∀ s, s < K.S → grayW (X.getD (K.hd s) 0) = true → canS (X.getD (K.hd s) 0) e = false) (hW : grayW W = true → canS W e = false) : ∀ s, s < K.S → grayW ((X.set (K.hd j) W).getD (K.hd s) 0) = true → canS ((X.set (K.hd j) W).getD (K.hd s) 0) e = false := fun s hs => by
  rw [getD_set]
  split
  · exact hW
  · exact h s hs
theorem gray_set2 {K : Cf} {X : List Nat} {e W : Nat} (h : ∀ s, s < K.S → grayW (X.getD (K.hd s) 0) = true → canS (X.getD (K.hd s) 0) e = false) : ∀ s, s < K.S → grayW ((X.set 2 W).getD (K.hd s) 0) = true → canS ((X.set 2 W).getD (K.hd s) 0) e = false := fun s hs => by
  rw [getD_set, if_neg (by have := K.hd_4 s; omega)]
  exact h s hs
theorem grN_set2 (K : Cf) (X : List Nat) (W : Nat) : ∀ n, grN K (X.set 2 W) n = grN K X n
  | 0 => rfl
  | n + 1 => by
    show grN K (X.set 2 W) n + (if grayW ((X.set 2 W).getD (K.hd n) 0) then 1 else 0) = grN K X n + (if grayW (X.getD (K.hd n) 0) then 1 else 0)
    have e : (X.set 2 W).getD (K.hd n) 0 = X.getD (K.hd n) 0 := by rw [getD_set, if_neg (by have := K.hd_4 n; omega)]
    rw [grN_set2 K X W n, e]
theorem mem_hd (K : Cf) {s : Nat} (hs : s < K.S) : (memX K.C K.D K.B K.N (K.S - 1)).getD (K.hd s) 0 = 0 := by
  have h1 := K.hd_lt hs
  have h4 := K.hd_4 s
  have e : memK K.C K.D K.B (K.S - 1) (K.hd s) = 0 := by
    unfold memK
    rw [show wat K.C K.D K.B (K.hd s) = (8, s, 0) from wat_header K.C K.D K.B s]
    rw [if_neg (by omega), if_neg (by simp)]
  simp [memX, h1, e]

set_option maxHeartbeats 8000000 in
theorem filled_any {K : Cf} (hK : K.Ok) {ad : Option Addr} {n cap : Nat} {H : Nat → Hv} (e : Nat) (he : e < 18446744073709551616) {w : World} (hr : RdH w ad n H) (hw : WT w) :
    Calls Tryd.prog 5 #[.agg K.cs, .slice ad n cap, .int .u64 (e : Nat)] w fun r w' => (∃ M G X, r = .returned (.pointer (some ⟨M, 0, none⟩)) ∧ MemX w' M G X 0 ∧ X.length = K.N ∧ X.getD 2 0 = grN K X K.S ∧ (∀ s, s < K.S → grayW (X.getD (K.hd s) 0) = true → canS (X.getD (K.hd s) 0) e = false) ∧ w.heap.size ≤ M ∧ w.heap.size ≤ G) ∧ Below w.heap.size w w' := by
  have c5 := rmemory_any K.C K.D K.S K.B K.a K.g K.k hK.b hK.b8 hK.c8 hK.d16 hK.s64 hK.d1
  have hYl : (memX K.C K.D K.B (nW K.C K.D K.B K.S) (K.S - 1)).length = K.N := memX_len _ _ _ _ _
  have hYb := memX_lt K.C K.D K.B K.S (K.S - 1) hK.d1 hK.s64
  have hYg : ∀ s, s < K.S → grayW ((memX K.C K.D K.B K.N (K.S - 1)).getD (K.hd s) 0) = true → canS ((memX K.C K.D K.B K.N (K.S - 1)).getD (K.hd s) 0) e = false := fun s hs hx => by
    rw [mem_hd K hs] at hx
    simp [grayW] at hx
  rw [show nW K.C K.D K.B K.S = K.N from rfl] at c5
  rw [show nW K.C K.D K.B K.S = K.N from rfl] at hYl hYb
  generalize memX K.C K.D K.B K.N (K.S - 1) = Y at *
  have hN := hK.N_b
  have hS := hK.s64
  have bel := alloc_below w (.cells #[.int .i64 (K.S : Nat), .int .i64 K.a, .int .i64 (K.C : Nat), .int .i64 (K.D : Nat), .int .i64 K.g, .int .i64 K.k] 23)
  have hh := cfg_new w K.S K.a K.C K.D K.g K.k
  replace hw := hw.below bel
  go_enter Tryd.func5, Tryd.ntmps5
  go_upto_region 1 with fail
  generalize w.alloc (.cells #[.int .i64 (K.S : Nat), .int .i64 K.a, .int .i64 (K.C : Nat), .int .i64 (K.D : Nat), .int .i64 K.g, .int .i64 K.k] 23) = w0 at *
  obtain ⟨l0, l1, l2, l3, l4, l5⟩ := hh.cells
  go_wp2_with (go_at_call 17; with_reducible refine (c5 _).mono ?_; rintro e w5 ⟨R, rfl, hX, hR, hb⟩; have hlt0 := hh.lt; replace bel := seq_below bel hb; replace hh := hh.below hb; replace hw := hw.below hb; clear hb l0 l1 l2 l3 l4 l5; obtain ⟨l0, l1, l2, l3, l4, l5⟩ := hh.cells)
  have hR1 : w.heap.size + 1 ≤ R := by omega
  clear hR hlt0 c5
  have is : Fl w _ K R Y := ⟨hX, hh, bel, hw⟩
  clear hX hh bel hw
  go_loopw [8] (fun i wr => ∃ (j : Nat) (X : List Nat), j ≤ K.S ∧ i = .int .i64 j ∧ X.length = K.N ∧ (∀ x ∈ X, x < 18446744073709551616) ∧ (∀ s, s < K.S → grayW (X.getD (K.hd s) 0) = true → canS (X.getD (K.hd s) 0) e = false) ∧ Fl w wr K R X) (fun i _ => K.S - (intOf i).toNat)
  case atStart => exact ⟨0, Y, Nat.zero_le _, rfl, hYl, hYb, hYg, is⟩
  case round =>
    clear is l0 l1 l2 l3 l4 l5 hYl hYb hYg
    obtain ⟨j, X, hj, rfl, hXl, hXb, hXg, is⟩ := hrel
    obtain ⟨l0, l1, l2, l3, l4, l5⟩ := is.cfg.cells
    by_cases hjS : j < K.S
    · by_cases hjn : j < n
      · obtain ⟨b, off, rfl, hbl, q0, q1, q2, q3, q4, q5⟩ := hr j hjn
        replace q0 := (is.bel.cell (p := ⟨b, off + j * 6, none⟩) hbl).trans q0
        replace q1 := (is.bel.cell (p := ⟨b, off + j * 6 + 1, none⟩) hbl).trans q1
        replace q2 := (is.bel.cell (p := ⟨b, off + j * 6 + 2, none⟩) hbl).trans q2
        replace q3 := (is.bel.cell (p := ⟨b, off + j * 6 + 3, none⟩) hbl).trans q3
        replace q4 := (is.bel.cell (p := ⟨b, off + j * 6 + 4, none⟩) hbl).trans q4
        replace q5 := (is.bel.cell (p := ⟨b, off + j * 6 + 5, none⟩) hbl).trans q5
        generalize H j = hv at *
        obtain ⟨k, m, g, a, nn, ss⟩ := hv
        simp only at q0 q1 q2 q3 q4 q5
        clear hr
        go_upto_region 6 with fail
        have hd : IsHd (wr.alloc (.cells #[.int .i64 k, .int .i64 m, .bool g, .int .i64 a, .int .i64 nn, .int .i64 ss] 46)) wr.heap.size k m g a nn ss := Hh.hd_new wr k m g a nn ss
        have b1 := alloc_below wr (.cells #[.int .i64 k, .int .i64 m, .bool g, .int .i64 a, .int .i64 nn, .int .i64 ss] 46)
        generalize wr.alloc (.cells #[.int .i64 k, .int .i64 m, .bool g, .int .i64 a, .int .i64 nn, .int .i64 ss] 46) = w1 at *
        have hfz : w1.frozen? ⟨wr.heap.size, 2, none⟩ = false := by
          have x' : w1.heap[wr.heap.size]? = _ := hd
          simp [World.frozen?, x']
        clear q0 q1 q2 q3 q4 q5 l0 l1 l2 l3 l4 l5
        obtain ⟨h0, h1, h2, h3, h4, h5⟩ := hd.cells
        have hP : wr.heap.size < w1.heap.size := Hh.lt_of_cell h0
        cases g
        · go_big_region
          have hd2 : IsHd (w1.setCell ⟨wr.heap.size, 2, none⟩ (.bool false)).drew wr.heap.size k m false a nn ss := Hh.IsHd.below (w := w1.setCell ⟨wr.heap.size, 2, none⟩ (.bool false)) (Hh.heap_setCell_at hd _) (Below.refl _ _).drew
          have b2 : Below wr.heap.size wr (w1.setCell ⟨wr.heap.size, 2, none⟩ (.bool false)).drew := (b1.setCell (p := ⟨wr.heap.size, 2, none⟩) (Nat.le_refl _) _).drew
          clear hd b1 h0 h1 h2 h3 h4 h5 hfz hP
          have hPR : wr.heap.size ≠ R := by have := lt_of_block (show wr.heap[R]? = _ from is.ws); omega
          have hcR : w.heap.size ≠ R := by omega
          replace is := is.below b2
          clear b2
          generalize (w1.setCell ⟨wr.heap.size, 2, none⟩ (.bool false)).drew = w2 at *
          generalize wr.heap.size = P at *
          obtain ⟨h0, h1, h2, h3, h4, h5⟩ := hd2.cells
          have hh := is.cfg
          cases hrt : rightH k m a nn ss
          · have c25 := Hh.right_any k m false a nn ss
            rw [hrt] at c25
            clear hrt
            go_wp2_with (go_at_call 18; with_reducible refine (c25 _).mono ?_; rintro r w3 ⟨rfl, hb⟩; replace is := is.below hb)
            go_roundw
            case rel => exact ⟨j + 1, X, by omega, by go_num, hXl, hXb, hXg, is⟩
            case measure => simp [intOf]; omega
          · have c25 := Hh.right_any k m false a nn ss
            rw [hrt] at c25
            obtain ⟨Kk, Mk, A, Nn, Sk, hH, rfl, rfl, rfl, rfl, rfl⟩ := right_nat hrt
            have hgm := gray_marked (e := e) false hH (by first | exact fun _ => hGm.out | exact fun h => by cases h)
            have hWlt := Hh.wordOf_lt Kk Mk (false : Bool).toNat A Nn Sk (by have := hH.k; omega) hH.m (Hh.bool_lt _) hH.a hH.n hH.s
            have c11 := rheader_any hK j hjS
            have c26 := Hh.rpack_any Kk Mk false A Nn Sk hH.k hH.m hH.a hH.n hH.s
            generalize wordOf Kk Mk (false : Bool).toNat A Nn Sk = W at *
            have hhd := K.hd_lt hjS
            have hset := gray_set (K := K) (X := X) (e := e) (j := j) (W := W) hXg hgm
            clear hrt hgm hH hXg
            replace hset : Hid _ := hset
            go_upto_region 8 with (go_at_call 18; with_reducible refine (c25 _).mono ?_; rintro r w3 ⟨rfl, hb⟩; replace is := is.below hb; replace hh := hh.below hb; replace hd2 := hd2.below hb)
            clear h0 h1 h2 h3 h4 h5 c25
            replace is := is.below (Below.refl _ _).drew
            replace hh := hh.below (Below.refl _ _).drew
            replace hd2 := hd2.below (Below.refl _ _).drew
            have fz := words_free is.ws (K.hd j)
            obtain ⟨vj, qj⟩ := words_some is.ws (K.hd j) (by omega)
            go_region_held (fun wq => (wq.cell? ⟨w.heap.size, 0, none⟩ = some (.int .i64 (K.S : Nat)) ∧ wq.cell? ⟨w.heap.size, 1, none⟩ = some (.int .i64 K.a) ∧ wq.cell? ⟨w.heap.size, 2, none⟩ = some (.int .i64 (K.C : Nat)) ∧ wq.cell? ⟨w.heap.size, 3, none⟩ = some (.int .i64 (K.D : Nat)) ∧ wq.cell? ⟨w.heap.size, 4, none⟩ = some (.int .i64 K.g) ∧ wq.cell? ⟨w.heap.size, 5, none⟩ = some (.int .i64 K.k)) ∧ (wq.cell? ⟨P, 0, none⟩ = some (.int .i64 (Kk : Nat)) ∧ wq.cell? ⟨P, 1, none⟩ = some (.int .i64 (Mk : Nat)) ∧ wq.cell? ⟨P, 2, none⟩ = some (.bool false) ∧ wq.cell? ⟨P, 3, none⟩ = some (.int .i64 (A : Nat)) ∧ wq.cell? ⟨P, 4, none⟩ = some (.int .i64 (Nn : Nat)) ∧ wq.cell? ⟨P, 5, none⟩ = some (.int .i64 (Sk : Nat)))) (first | with_reducible exact ⟨hh.cells, hd2.cells⟩ | with_reducible exact ⟨(cfg_stored hh hcR _).cells, (hd_apart hd2 hPR _).cells⟩) (first
              | (go_at_call 12; with_reducible refine (c11 _).mono ?_; rintro r w4 ⟨rfl, hb⟩; replace is := is.below hb; replace hh := hh.below hb; replace hd2 := hd2.below hb; have fz := words_free is.ws (K.hd j); obtain ⟨vj, qj⟩ := words_some is.ws (K.hd j) (by omega))
              | (go_at_call 15; with_reducible refine (c26 _).mono ?_; rintro r w4 ⟨rfl, hb⟩; replace is := is.below hb; replace hh := hh.below hb; replace hd2 := hd2.below hb; have fz := words_free is.ws (K.hd j); obtain ⟨vj, qj⟩ := words_some is.ws (K.hd j) (by omega)))
            all_goals
              go_wp2
              go_roundw
              case rel => exact ⟨j + 1, X.set (K.hd j) W, by omega, by go_num, by rw [List.length_set]; exact hXl, fl_set hXb hWlt, hset.out, is.set hR1 (K.hd j) W⟩
              case measure => simp [intOf]; omega
        · have c24 := fun w => (Hh.rblack_nat e he w)
          obtain ⟨z, hz⟩ : ∃ z : Int, z = ((blackN e : Nat) : Int) := ⟨_, rfl⟩
          rw [← hz] at c24
          obtain ⟨x0, x1, x2, x3, x4, x5⟩ := (hd.below (Below.refl _ _).drew).cells
          by_cases hm : m = z
          · obtain rfl := hm
            replace hz : Hid (m = ((blackN e : Nat) : Int)) := hz
            have hGm := hz
            go_region_held (fun wq => wq.cell? ⟨wr.heap.size, 1, none⟩ = some (.int .i64 m) ∧ wq.cell? ⟨wr.heap.size, 2, none⟩ = some (.bool true)) (first | with_reducible exact ⟨x1, x2⟩ | with_reducible exact ⟨hd_c1 hd true, hd_c2 hd true⟩) ((go_at_call 14; with_reducible refine (c24 _).mono ?_; rintro r wq ⟨rfl, rfl⟩))
            clear x0 x1 x2 x3 x4 x5 c24 hz
            have hd2 : IsHd (w1.setCell ⟨wr.heap.size, 2, none⟩ (.bool true)).drew wr.heap.size k m true a nn ss := Hh.IsHd.below (w := w1.setCell ⟨wr.heap.size, 2, none⟩ (.bool true)) (Hh.heap_setCell_at hd _) (Below.refl _ _).drew
            have b2 : Below wr.heap.size wr (w1.setCell ⟨wr.heap.size, 2, none⟩ (.bool true)).drew := (b1.setCell (p := ⟨wr.heap.size, 2, none⟩) (Nat.le_refl _) _).drew
            clear hd b1 h0 h1 h2 h3 h4 h5 hfz hP
            have hPR : wr.heap.size ≠ R := by have := lt_of_block (show wr.heap[R]? = _ from is.ws); omega
            have hcR : w.heap.size ≠ R := by omega
            replace is := is.below b2
            clear b2
            generalize (w1.setCell ⟨wr.heap.size, 2, none⟩ (.bool true)).drew = w2 at *
            generalize wr.heap.size = P at *
            obtain ⟨h0, h1, h2, h3, h4, h5⟩ := hd2.cells
            have hh := is.cfg
            cases hrt : rightH k m a nn ss
            · have c25 := Hh.right_any k m true a nn ss
              rw [hrt] at c25
              clear hrt
              go_wp2_with (go_at_call 18; with_reducible refine (c25 _).mono ?_; rintro r w3 ⟨rfl, hb⟩; replace is := is.below hb)
              go_roundw
              case rel => exact ⟨j + 1, X, by omega, by go_num, hXl, hXb, hXg, is⟩
              case measure => simp [intOf]; omega
            · have c25 := Hh.right_any k m true a nn ss
              rw [hrt] at c25
              obtain ⟨Kk, Mk, A, Nn, Sk, hH, rfl, rfl, rfl, rfl, rfl⟩ := right_nat hrt
              have hgm := gray_marked (e := e) true hH (by first | exact fun _ => hGm.out | exact fun h => by cases h)
              have hWlt := Hh.wordOf_lt Kk Mk (true : Bool).toNat A Nn Sk (by have := hH.k; omega) hH.m (Hh.bool_lt _) hH.a hH.n hH.s
              have c11 := rheader_any hK j hjS
              have c26 := Hh.rpack_any Kk Mk true A Nn Sk hH.k hH.m hH.a hH.n hH.s
              generalize wordOf Kk Mk (true : Bool).toNat A Nn Sk = W at *
              have hhd := K.hd_lt hjS
              have hset := gray_set (K := K) (X := X) (e := e) (j := j) (W := W) hXg hgm
              clear hrt hgm hH hXg
              replace hset : Hid _ := hset
              go_upto_region 8 with (go_at_call 18; with_reducible refine (c25 _).mono ?_; rintro r w3 ⟨rfl, hb⟩; replace is := is.below hb; replace hh := hh.below hb; replace hd2 := hd2.below hb)
              clear h0 h1 h2 h3 h4 h5 c25
              replace is := is.below (Below.refl _ _).drew
              replace hh := hh.below (Below.refl _ _).drew
              replace hd2 := hd2.below (Below.refl _ _).drew
              have fz := words_free is.ws (K.hd j)
              obtain ⟨vj, qj⟩ := words_some is.ws (K.hd j) (by omega)
              go_region_held (fun wq => (wq.cell? ⟨w.heap.size, 0, none⟩ = some (.int .i64 (K.S : Nat)) ∧ wq.cell? ⟨w.heap.size, 1, none⟩ = some (.int .i64 K.a) ∧ wq.cell? ⟨w.heap.size, 2, none⟩ = some (.int .i64 (K.C : Nat)) ∧ wq.cell? ⟨w.heap.size, 3, none⟩ = some (.int .i64 (K.D : Nat)) ∧ wq.cell? ⟨w.heap.size, 4, none⟩ = some (.int .i64 K.g) ∧ wq.cell? ⟨w.heap.size, 5, none⟩ = some (.int .i64 K.k)) ∧ (wq.cell? ⟨P, 0, none⟩ = some (.int .i64 (Kk : Nat)) ∧ wq.cell? ⟨P, 1, none⟩ = some (.int .i64 (Mk : Nat)) ∧ wq.cell? ⟨P, 2, none⟩ = some (.bool true) ∧ wq.cell? ⟨P, 3, none⟩ = some (.int .i64 (A : Nat)) ∧ wq.cell? ⟨P, 4, none⟩ = some (.int .i64 (Nn : Nat)) ∧ wq.cell? ⟨P, 5, none⟩ = some (.int .i64 (Sk : Nat)))) (first | with_reducible exact ⟨hh.cells, hd2.cells⟩ | with_reducible exact ⟨(cfg_stored hh hcR _).cells, (hd_apart hd2 hPR _).cells⟩) (first
                | (go_at_call 12; with_reducible refine (c11 _).mono ?_; rintro r w4 ⟨rfl, hb⟩; replace is := is.below hb; replace hh := hh.below hb; replace hd2 := hd2.below hb; have fz := words_free is.ws (K.hd j); obtain ⟨vj, qj⟩ := words_some is.ws (K.hd j) (by omega))
                | (go_at_call 15; with_reducible refine (c26 _).mono ?_; rintro r w4 ⟨rfl, hb⟩; replace is := is.below hb; replace hh := hh.below hb; replace hd2 := hd2.below hb; have fz := words_free is.ws (K.hd j); obtain ⟨vj, qj⟩ := words_some is.ws (K.hd j) (by omega)))
              all_goals
                go_wp2
                go_roundw
                case rel => exact ⟨j + 1, X.set (K.hd j) W, by omega, by go_num, by rw [List.length_set]; exact hXl, fl_set hXb hWlt, hset.out, is.set hR1 (K.hd j) W⟩
                case measure => simp [intOf]; omega
          · have hm2 : decide (m = z) = false := decide_eq_false hm
            have hm3 : (m == z) = false := by simpa using hm
            clear hz
            go_region_with ((go_at_call 14; with_reducible refine (c24 _).mono ?_; rintro r wq ⟨rfl, rfl⟩))
            all_goals clear x0 x1 x2 x3 x4 x5 c24 hm hm2 hm3
            all_goals
              have hd2 : IsHd (w1.setCell ⟨wr.heap.size, 2, none⟩ (.bool false)).drew wr.heap.size k m false a nn ss := Hh.IsHd.below (w := w1.setCell ⟨wr.heap.size, 2, none⟩ (.bool false)) (Hh.heap_setCell_at hd _) (Below.refl _ _).drew
              have b2 : Below wr.heap.size wr (w1.setCell ⟨wr.heap.size, 2, none⟩ (.bool false)).drew := (b1.setCell (p := ⟨wr.heap.size, 2, none⟩) (Nat.le_refl _) _).drew
              clear hd b1 h0 h1 h2 h3 h4 h5 hfz hP
              have hPR : wr.heap.size ≠ R := by have := lt_of_block (show wr.heap[R]? = _ from is.ws); omega
              have hcR : w.heap.size ≠ R := by omega
              replace is := is.below b2
              clear b2
              generalize (w1.setCell ⟨wr.heap.size, 2, none⟩ (.bool false)).drew = w2 at *
              generalize wr.heap.size = P at *
              obtain ⟨h0, h1, h2, h3, h4, h5⟩ := hd2.cells
              have hh := is.cfg
              cases hrt : rightH k m a nn ss
              · have c25 := Hh.right_any k m false a nn ss
                rw [hrt] at c25
                clear hrt
                go_wp2_with (go_at_call 18; with_reducible refine (c25 _).mono ?_; rintro r w3 ⟨rfl, hb⟩; replace is := is.below hb)
                go_roundw
                case rel => exact ⟨j + 1, X, by omega, by go_num, hXl, hXb, hXg, is⟩
                case measure => simp [intOf]; omega
              · have c25 := Hh.right_any k m false a nn ss
                rw [hrt] at c25
                obtain ⟨Kk, Mk, A, Nn, Sk, hH, rfl, rfl, rfl, rfl, rfl⟩ := right_nat hrt
                have hgm := gray_marked (e := e) false hH (by first | exact fun _ => hGm.out | exact fun h => by cases h)
                have hWlt := Hh.wordOf_lt Kk Mk (false : Bool).toNat A Nn Sk (by have := hH.k; omega) hH.m (Hh.bool_lt _) hH.a hH.n hH.s
                have c11 := rheader_any hK j hjS
                have c26 := Hh.rpack_any Kk Mk false A Nn Sk hH.k hH.m hH.a hH.n hH.s
                generalize wordOf Kk Mk (false : Bool).toNat A Nn Sk = W at *
                have hhd := K.hd_lt hjS
                have hset := gray_set (K := K) (X := X) (e := e) (j := j) (W := W) hXg hgm
                clear hrt hgm hH hXg
                replace hset : Hid _ := hset
                go_upto_region 8 with (go_at_call 18; with_reducible refine (c25 _).mono ?_; rintro r w3 ⟨rfl, hb⟩; replace is := is.below hb; replace hh := hh.below hb; replace hd2 := hd2.below hb)
                clear h0 h1 h2 h3 h4 h5 c25
                replace is := is.below (Below.refl _ _).drew
                replace hh := hh.below (Below.refl _ _).drew
                replace hd2 := hd2.below (Below.refl _ _).drew
                have fz := words_free is.ws (K.hd j)
                obtain ⟨vj, qj⟩ := words_some is.ws (K.hd j) (by omega)
                go_region_held (fun wq => (wq.cell? ⟨w.heap.size, 0, none⟩ = some (.int .i64 (K.S : Nat)) ∧ wq.cell? ⟨w.heap.size, 1, none⟩ = some (.int .i64 K.a) ∧ wq.cell? ⟨w.heap.size, 2, none⟩ = some (.int .i64 (K.C : Nat)) ∧ wq.cell? ⟨w.heap.size, 3, none⟩ = some (.int .i64 (K.D : Nat)) ∧ wq.cell? ⟨w.heap.size, 4, none⟩ = some (.int .i64 K.g) ∧ wq.cell? ⟨w.heap.size, 5, none⟩ = some (.int .i64 K.k)) ∧ (wq.cell? ⟨P, 0, none⟩ = some (.int .i64 (Kk : Nat)) ∧ wq.cell? ⟨P, 1, none⟩ = some (.int .i64 (Mk : Nat)) ∧ wq.cell? ⟨P, 2, none⟩ = some (.bool false) ∧ wq.cell? ⟨P, 3, none⟩ = some (.int .i64 (A : Nat)) ∧ wq.cell? ⟨P, 4, none⟩ = some (.int .i64 (Nn : Nat)) ∧ wq.cell? ⟨P, 5, none⟩ = some (.int .i64 (Sk : Nat)))) (first | with_reducible exact ⟨hh.cells, hd2.cells⟩ | with_reducible exact ⟨(cfg_stored hh hcR _).cells, (hd_apart hd2 hPR _).cells⟩) (first
                  | (go_at_call 12; with_reducible refine (c11 _).mono ?_; rintro r w4 ⟨rfl, hb⟩; replace is := is.below hb; replace hh := hh.below hb; replace hd2 := hd2.below hb; have fz := words_free is.ws (K.hd j); obtain ⟨vj, qj⟩ := words_some is.ws (K.hd j) (by omega))
                  | (go_at_call 15; with_reducible refine (c26 _).mono ?_; rintro r w4 ⟨rfl, hb⟩; replace is := is.below hb; replace hh := hh.below hb; replace hd2 := hd2.below hb; have fz := words_free is.ws (K.hd j); obtain ⟨vj, qj⟩ := words_some is.ws (K.hd j) (by omega)))
                all_goals
                  go_wp2
                  go_roundw
                  case rel => exact ⟨j + 1, X.set (K.hd j) W, by omega, by go_num, by rw [List.length_set]; exact hXl, fl_set hXb hWlt, hset.out, is.set hR1 (K.hd j) W⟩
                  case measure => simp [intOf]; omega
      · clear hr
        have c21 := lgrays_any hK (cap := K.N) hXl (fl_lt hXb) (RdW.of_words is.ws) is.wt
        have hG := grN_le K X K.S
        have hgr := grN_set2 K X (grN K X K.S) K.S
        have hX2 : ∀ x ∈ X.set 2 (grN K X K.S), x < 18446744073709551616 := fl_set hXb (by omega)
        have hXg2 : Hid (∀ s, s < K.S → grayW ((X.set 2 (grN K X K.S)).getD (K.hd s) 0) = true → canS ((X.set 2 (grN K X K.S)).getD (K.hd s) 0) e = false) := gray_set2 hXg
        have hg1 : (X.set 2 (grN K X K.S)).getD 2 0 = grN K (X.set 2 (grN K X K.S)) K.S := by rw [hgr, getD_set, if_pos ⟨rfl, by omega⟩]
        have hg2 : Hid ((X.set 2 (grN K X K.S)).getD 2 0 = grN K (X.set 2 (grN K X K.S)) K.S) := hg1
        clear hg1
        have hl2 : (X.set 2 (grN K X K.S)).length = K.N := by rw [List.length_set]; exact hXl
        have c27 : ∀ w', IsWords w' R (X.set 2 (grN K X K.S)) → Calls Tryd.prog 19 #[.slice (some ⟨R, 0, none⟩) K.N K.N] w' fun r w'' => ∃ M G, r = .returned (.pointer (some ⟨M, 0, none⟩)) ∧ IsMem w'' M G (zeroMS (X.set 2 (grN K X K.S))) ∧ w'.heap.size ≤ M ∧ w'.heap.size ≤ G ∧ Below w'.heap.size w' w'' := fun w' h => by
          have q := Mm.of_any h hX2 (by omega)
          rw [hl2] at q
          exact q
        clear hgr hXg hX2
        replace hl2 : Hid _ := hl2
        have hset2 := fun (wq : World) (h : Fl w wq K R X) => h.set hR1 2 (grN K X K.S)
        generalize X.set 2 (grN K X K.S) = X2 at *
        generalize grN K X K.S = Gn at *
        go_upto_region 10 with (go_at_call 11; with_reducible refine c21.mono ?_; rintro r w4 ⟨rfl, hb⟩; replace is := is.below hb; clear l0 l1 l2 l3 l4 l5; have fz := words_free is.ws 2; obtain ⟨vj, qj⟩ := words_some is.ws 2 (by omega))
        have is2 := hset2 _ is
        clear hset2 is fz qj c21
        generalize w4.setCell ⟨R, 2, none⟩ (.int .u64 (Gn : Nat)) = w6 at *
        go_wp2_with (go_at_call 19; with_reducible refine (c27 _ is2.ws).mono ?_; rintro r w7 ⟨M, G, rfl, hm, hM, hG', hb⟩)
        go_ret
        have hsz := is2.bel.size
        exact ⟨⟨M, G, X2, rfl, ⟨_, hm, rfl, rfl⟩, hl2.out, hg2.out, hXg2.out, by omega, by omega⟩, seq_below is2.bel hb⟩
    · clear hr
      have hnj : j = K.S := by omega
      subst hnj
      have c21 := lgrays_any hK (cap := K.N) hXl (fl_lt hXb) (RdW.of_words is.ws) is.wt
      have hG := grN_le K X K.S
      have hgr := grN_set2 K X (grN K X K.S) K.S
      have hX2 : ∀ x ∈ X.set 2 (grN K X K.S), x < 18446744073709551616 := fl_set hXb (by omega)
      have hXg2 : Hid (∀ s, s < K.S → grayW ((X.set 2 (grN K X K.S)).getD (K.hd s) 0) = true → canS ((X.set 2 (grN K X K.S)).getD (K.hd s) 0) e = false) := gray_set2 hXg
      have hg1 : (X.set 2 (grN K X K.S)).getD 2 0 = grN K (X.set 2 (grN K X K.S)) K.S := by rw [hgr, getD_set, if_pos ⟨rfl, by omega⟩]
      have hg2 : Hid ((X.set 2 (grN K X K.S)).getD 2 0 = grN K (X.set 2 (grN K X K.S)) K.S) := hg1
      clear hg1
      have hl2 : (X.set 2 (grN K X K.S)).length = K.N := by rw [List.length_set]; exact hXl
      have c27 : ∀ w', IsWords w' R (X.set 2 (grN K X K.S)) → Calls Tryd.prog 19 #[.slice (some ⟨R, 0, none⟩) K.N K.N] w' fun r w'' => ∃ M G, r = .returned (.pointer (some ⟨M, 0, none⟩)) ∧ IsMem w'' M G (zeroMS (X.set 2 (grN K X K.S))) ∧ w'.heap.size ≤ M ∧ w'.heap.size ≤ G ∧ Below w'.heap.size w' w'' := fun w' h => by
        have q := Mm.of_any h hX2 (by omega)
        rw [hl2] at q
        exact q
      clear hgr hXg hX2
      replace hl2 : Hid _ := hl2
      have hset2 := fun (wq : World) (h : Fl w wq K R X) => h.set hR1 2 (grN K X K.S)
      generalize X.set 2 (grN K X K.S) = X2 at *
      generalize grN K X K.S = Gn at *
      go_upto_region 10 with (go_at_call 11; with_reducible refine c21.mono ?_; rintro r w4 ⟨rfl, hb⟩; replace is := is.below hb; clear l0 l1 l2 l3 l4 l5; have fz := words_free is.ws 2; obtain ⟨vj, qj⟩ := words_some is.ws 2 (by omega))
      have is2 := hset2 _ is
      clear hset2 is fz qj c21
      generalize w4.setCell ⟨R, 2, none⟩ (.int .u64 (Gn : Nat)) = w6 at *
      go_wp2_with (go_at_call 19; with_reducible refine (c27 _ is2.ws).mono ?_; rintro r w7 ⟨M, G, rfl, hm, hM, hG', hb⟩)
      go_ret
      have hsz := is2.bel.size
      exact ⟨⟨M, G, X2, rfl, ⟨_, hm, rfl, rfl⟩, hl2.out, hg2.out, hXg2.out, by omega, by omega⟩, seq_below is2.bel hb⟩
end Go.Proofs.YtpfcpkkillklkaaDoor
