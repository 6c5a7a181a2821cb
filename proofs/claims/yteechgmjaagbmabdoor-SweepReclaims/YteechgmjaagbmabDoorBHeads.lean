/- The law's heads: the headers of words. -/
import Derived.Test.YteechgmjaagbmabDoorBGray
namespace Go.Proofs.YteechgmjaagbmabDoor
open Go.RowKit
open Mm (IsMem MS touched Only IsWords)
open Hh (WT wordOf okW Hr)

/-- The header that a word tells. -/
def hvW (W : Nat) : Hv := if okW W = true then ⟨((W % 8 : Nat) : Int), ((W / 8 % 2 : Nat) : Int), decide (W / 16 % 2 = 1), ((W / 32 % 16 : Nat) : Int), ((W / 65536 % 4294967296 : Nat) : Int), ((W / 281474976710656 : Nat) : Int)⟩ else ⟨0, 0, false, 0, 0, 0⟩
def hvC (h : Hv) : List Value := [.int .i64 h.k, .int .i64 h.m, .bool h.g, .int .i64 h.a, .int .i64 h.n, .int .i64 h.s]
theorem hvW_word {K M : Nat} (g : Bool) {A N S : Nat} (h : Hr K M A N S) : hvW (wordOf K M g.toNat A N S) = ⟨K, M, g, A, N, S⟩ := by
  obtain ⟨p0, p1, p2, p3, p4, p5, p6, p7⟩ := Hh.word_parts g h
  unfold hvW
  rw [Hh.okW_word g h, if_pos rfl, p0, p1, p3, p5]
  have e6 : wordOf K M g.toNat A N S / 281474976710656 = S := by
    have := h.k; have := h.m; have := h.a; have := h.n; have := h.s
    have hg : g.toNat < 2 := Hh.bool_lt g
    unfold wordOf; omega
  have e2 : decide (wordOf K M g.toNat A N S / 16 % 2 = 1) = g := by
    have hg : wordOf K M g.toNat A N S / 16 % 2 = g.toNat := by
      have := h.k; have := h.m; have := h.a; have := h.n; have := h.s
      have hg : g.toNat < 2 := Hh.bool_lt g
      unfold wordOf; omega
    rw [hg]
    cases g <;> rfl
  rw [e6, e2]
theorem run_hv {W : Nat} (hW : W < 18446744073709551616) (w : World) :
    Calls Tryd.prog 17 #[.int .u64 (W : Nat)] w fun r w' => r = .returned (.tuple #[.agg #[.int .i64 (hvW W).k, .int .i64 (hvW W).m, .bool (hvW W).g, .int .i64 (hvW W).a, .int .i64 (hvW W).n, .int .i64 (hvW W).s], .bool (okW W)]) ∧ Below w.heap.size w w' := by
  cases hok : okW W
  · have e : hvW W = ⟨0, 0, false, 0, 0, 0⟩ := by unfold hvW; rw [hok]; rfl
    rw [e]
    exact Hh.runpack_bad hW hok w
  · obtain ⟨K, M, g, A, N, S, h1, rfl⟩ := Hh.okW_parts hW hok
    rw [hvW_word g h1]
    exact Hh.runpack_word g h1 w
/-- The headers' cells, of the first n slots. -/
def hdsL (K : Cf) (X : List Nat) : Nat → List Value
  | 0 => []
  | n + 1 => hdsL K X n ++ hvC (hvW (X.getD (K.hd n) 0))
theorem hdsL_len (K : Cf) (X : List Nat) : ∀ n, (hdsL K X n).length = n * 6
  | 0 => rfl
  | n + 1 => by unfold hdsL; rw [List.length_append, hdsL_len K X n]; show n * 6 + 6 = _; omega
theorem hdsL_at (K : Cf) (X : List Nat) {s j : Nat} (hj : j < 6) : ∀ n, s < n → (hdsL K X n)[s * 6 + j]? = (hvC (hvW (X.getD (K.hd s) 0)))[j]?
  | 0, h => by omega
  | n + 1, h => by
    unfold hdsL
    by_cases hs : s < n
    · rw [List.getElem?_append_left (by rw [hdsL_len]; omega)]
      exact hdsL_at K X hj n hs
    · obtain rfl : s = n := by omega
      rw [List.getElem?_append_right (by rw [hdsL_len]; omega), hdsL_len]
      congr 1
      omega
structure Hs (w wr : World) (K : Cf) (b off : Nat) (X : List Nat) (v : Value) (n : Nat) : Prop where
  own : wr.ownsRow (w.heap.size + 1) 43 6 v n (hdsL K X n)
  rd : RdW wr b off X
  lt : b < w.heap.size
  cfg : IsCfg wr w.heap.size K.S K.a K.C K.D K.g K.k
  bel : Below w.heap.size w wr
theorem Hs.below {w wr w1 : World} {K : Cf} {b off : Nat} {X : List Nat} {v : Value} {n : Nat} (h : Hs w wr K b off X v n) (k : Below wr.heap.size wr w1) : Hs w w1 K b off X v n :=
  ⟨own_below h.own k, h.rd.below k, h.lt, h.cfg.below k, seq_below h.bel k⟩
theorem Hs.step {w wr w1 : World} {K : Cf} {b off : Nat} {X : List Nat} {v v' : Value} {n : Nat} (h : Hs w wr K b off X v n) (o : Obj)
    (hown : w1.ownsRow (w.heap.size + 1) 43 6 v' (n + 1) (hdsL K X n ++ hvC (hvW (X.getD (K.hd n) 0)))) (hg : (wr.alloc o).grownBy w1 v.ownBlock) : Hs w w1 K b off X v' (n + 1) := by
  have hb : ∀ i, i ≤ w.heap.size → w1.heap[i]? = wr.heap[i]? := fun i hi => by
    have hlt := h.cfg.lt
    rw [hg.block i (by simp; omega) (fun e => by have := h.own.lt i e.symm; omega)]
    exact (alloc_below wr o).block i (by omega)
  have hlt := h.cfg.lt
  refine ⟨hown, ⟨Nat.lt_of_lt_of_le h.rd.1 (Nat.le_trans (by simp) hg.size), fun i hi => ?_⟩, h.lt, ?_, ?_⟩
  · have hc := h.rd.2 i hi
    rw [← hc]
    exact World.cell?_of_block (w := wr) (w' := w1) (a := ⟨b, off + i, none⟩) (hb b (by have := h.lt; omega))
  · show w1.heap[w.heap.size]? = _
    rw [hb _ (Nat.le_refl _)]; exact h.cfg
  · exact ⟨hg.os.trans h.bel.os, hg.tape.trans h.bel.tape, hg.output.trans h.bel.output, Nat.le_trans h.bel.size (Nat.le_trans (by simp) hg.size), fun i hi => (hb i (by omega)).trans (h.bel.block i hi)⟩
theorem hid1' {p : Prop} (h : p) : Hid p := h
theorem Tryd.info43 : (Tryd.prog.info? 43).map (fun i => (i.zero, i.size, i.bytes)) = some (some (.agg #[.int .i64 0, .int .i64 0, .bool false, .int .i64 0, .int .i64 0, .int .i64 0]), 6, 48) := by kernel_rfl
theorem oneH (h : Hv) : ∀ u ∈ hvC h, u.oneCell' = true := by
  intro u hu
  simp [hvC] at hu
  rcases hu with rfl | rfl | rfl | rfl | rfl | rfl <;> rfl

set_option maxRecDepth 100000 in
set_option maxHeartbeats 4000000 in
theorem heads_any {K : Cf} (hK : K.Ok) {b off cap : Nat} {X : List Nat} (hX : X.length = K.N) (hlt : ∀ i, X.getD i 0 < 18446744073709551616) {w : World} (hr : RdW w b off X) :
    Calls Tryd.prog 22 #[.agg K.cs, .slice (some ⟨b, off, none⟩) K.N cap] w fun e w' => ∃ v, e = .returned v ∧ Hs w w' K b off X v K.S := by
  obtain ⟨i0, hi, hz0, hz1, hz2⟩ := info_parts Tryd.info43
  have hN := hK.N_b
  have hS := hK.s64
  have bel := alloc_below w (.cells #[.int .i64 (K.S : Nat), .int .i64 K.a, .int .i64 (K.C : Nat), .int .i64 (K.D : Nat), .int .i64 K.g, .int .i64 K.k] 23)
  have is : Hs w _ K b off X (.slice none 0 0) 0 := ⟨World.ownsRow_nil _ _ _ _, hr.below bel, hr.1, cfg_new w K.S K.a K.C K.D K.g K.k, bel⟩
  clear bel hr
  unfold Cf.cs at *
  go_enter Tryd.func22, Tryd.ntmps22
  go_upto_region 1 with fail
  generalize w.alloc (.cells #[.int .i64 (K.S : Nat), .int .i64 K.a, .int .i64 (K.C : Nat), .int .i64 (K.D : Nat), .int .i64 K.g, .int .i64 K.k] 23) = w0 at *
  go_wp2
  go_loopw [5, 6] (fun v i wr => ∃ n : Nat, n ≤ K.S ∧ i = .int .i64 n ∧ Hs w wr K b off X v n) (fun _ i _ => K.S - (intOf i).toNat)
  case atStart => exact ⟨0, Nat.zero_le _, rfl, is⟩
  case round =>
    clear is
    obtain ⟨n, hn, rfl, is⟩ := hrel
    obtain ⟨l0, l1, l2, l3, l4, l5⟩ := is.cfg.cells
    by_cases hnS : n < K.S
    · have c3 := rheader_any hK n hnS
      have c4 := run_hv (hlt (K.hd n))
      have hh := K.hd_lt hnS
      have hhX : K.hd n < X.length := by omega
      obtain ⟨W, hXW⟩ : ∃ W, X.getD (K.hd n) 0 = W := ⟨_, rfl⟩
      rw [hXW] at c4
      have q := is.rd.atW hhX hXW
      unfold Cf.cs at c3
      have HD := hid1' (fun (wr w1 : World) (v v' : Value) (h : Hs w wr K b off X v n) (o : Obj) (hown : w1.ownsRow (w.heap.size + 1) 43 6 v' (n + 1) (hdsL K X n ++ hvC (hvW W))) (hg : (wr.alloc o).grownBy w1 v.ownBlock) => (h.step o (by rw [hXW]; exact hown) hg : Hs w w1 K b off X v' (n + 1)))
      generalize hvW W = hv at *
      obtain ⟨kk, mm, gg, aa, nn, ss⟩ := hv
      simp only at c4
      go_upto_region 6 with (first
        | (go_at_call 28; with_reducible refine (c3 _).mono ?_; rintro e w1 ⟨rfl, hb⟩; replace is := is.below hb; clear l0 l1 l2 l3 l4 l5 q; obtain ⟨l0, l1, l2, l3, l4, l5⟩ := is.cfg.cells; have q := is.rd.atW hhX hXW)
        | (go_at_call 17; with_reducible refine (c4 _).mono ?_; rintro e w2 ⟨rfl, hb⟩; replace is := is.below hb; clear l0 l1 l2 l3 l4 l5 q))
      have hd2 : Hh.IsHd (w2.alloc (.cells #[.int .i64 kk, .int .i64 mm, .bool gg, .int .i64 aa, .int .i64 nn, .int .i64 ss] 43)) w2.heap.size kk mm gg aa nn ss := Hh.hd_new w2 kk mm gg aa nn ss
      replace is := is.below (alloc_below w2 (.cells #[.int .i64 kk, .int .i64 mm, .bool gg, .int .i64 aa, .int .i64 nn, .int .i64 ss] 43))
      generalize w2.alloc (.cells #[.int .i64 kk, .int .i64 mm, .bool gg, .int .i64 aa, .int .i64 nn, .int .i64 ss] 43) = w4 at *
      generalize w2.heap.size = P at *
      obtain ⟨h0, h1, h2, h3, h4, h5⟩ := hd2.cells
      clear c3 c4
      go_wp2_with (first
        | (at_builtin; refine wpList_append_own _ rfl _ _ 54 rfl (w.heap.size + 1) 43 i0 _ 6 48 Tryd.underlying54 hi hz0 hz1 hz2 rfl (by decide) _ _ _ rfl (is.own.alloc _) ⟨_, 0, none⟩ 1 1 [.int .i64 kk, .int .i64 mm, .bool gg, .int .i64 aa, .int .i64 nn, .int .i64 ss] rfl rfl (fun j u hj => new_news _ _ _ j u hj) (oneH ⟨kk, mm, gg, aa, nn, ss⟩) ?c3 ?c4 ?c5 ?_))
      case c3 => unfold maxLen; omega
      case c4 => omega
      case c5 => have := is.cfg.lt; simp; omega
      · intro v' w5 hown hgrow _
        have st' := HD.out _ _ _ _ is _ hown hgrow
        clear hown hgrow h0 h1 h2 h3 h4 h5 is
        go_wp2
        go_roundw
        case rel => exact ⟨n + 1, by omega, by go_num, st'⟩
        case measure => simp [intOf]; omega
    · have hnn : n = K.S := by omega
      subst hnn
      go_wp2
      go_ret
      exact ⟨_, rfl, is⟩
end Go.Proofs.YteechgmjaagbmabDoor
