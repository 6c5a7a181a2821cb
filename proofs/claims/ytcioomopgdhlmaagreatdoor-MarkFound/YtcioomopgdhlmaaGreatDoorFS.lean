/- The reference's Sane: a list of slots of which none is gray that isn't marked; the nil cases of the reference's Found, and of Same. -/
import Derived.Test.YtcioomopgdhlmaaGreatDoorFF
import Derived.Test.YtcioomopgdhlmaaGreatDoorBLd0
import Derived.Test.YtcioomopgdhlmaaGreatDoorPWords
import Derived.Test.YtcioomopgdhlmaaGreatDoorCFn
namespace Go.Proofs.YtcioomopgdhlmaaGreatDoor
open Go.RowKit
open Mm (IsMem MS touched Only IsWords)
open Hh (WT okW wordOf IsHd blackN)

def snG (e : Nat) (v : Sv) : Bool := v.h.g && decide (v.h.m = ((blackN e : Nat) : Int))
def snV (e : Nat) (v : Sv) : Sv := ⟨⟨v.h.k, v.h.m, snG e v, v.h.a, v.h.n, v.h.s⟩, v.bl, v.b⟩
def svC (v : Sv) (d : Option Addr × Nat) : List Value := [.int .i64 v.h.k, .int .i64 v.h.m, .bool v.h.g, .int .i64 v.h.a, .int .i64 v.h.n, .int .i64 v.h.s, .slice d.1 v.bl d.2]
def snL (Z : Nat → Sv) (D : Nat → Option Addr × Nat) (e : Nat) : Nat → List Value
  | 0 => []
  | n + 1 => snL Z D e n ++ svC (snV e (Z n)) (D n)
theorem snL_len (Z : Nat → Sv) (D : Nat → Option Addr × Nat) (e : Nat) : ∀ n, (snL Z D e n).length = n * 7
  | 0 => rfl
  | n + 1 => by unfold snL; rw [List.length_append, snL_len Z D e n]; show n * 7 + 7 = _; omega
theorem snL_at (Z : Nat → Sv) (D : Nat → Option Addr × Nat) (e : Nat) {s j : Nat} (hj : j < 7) : ∀ n, s < n → (snL Z D e n)[s * 7 + j]? = (svC (snV e (Z s)) (D s))[j]?
  | 0, h => by omega
  | n + 1, h => by
    unfold snL
    by_cases hs : s < n
    · rw [List.getElem?_append_left (by rw [snL_len]; omega)]
      exact snL_at Z D e hj n hs
    · obtain rfl : s = n := by omega
      rw [List.getElem?_append_right (by rw [snL_len]; omega), snL_len]
      congr 1
      omega
structure Ss (w wr : World) (v : Value) (n : Nat) (xs : List Value) : Prop where
  own : wr.ownsRow w.heap.size 66 7 v n xs
  bel : Below w.heap.size w wr
theorem Ss.below {w wr w1 : World} {v : Value} {n : Nat} {xs : List Value} (h : Ss w wr v n xs) (k : Below wr.heap.size wr w1) : Ss w w1 v n xs := ⟨own_below h.own k, seq_below h.bel k⟩
theorem Ss.step {w wr w1 : World} {v v' : Value} {n : Nat} {xs xs' : List Value} (h : Ss w wr v n xs) (o : Obj) (hown : w1.ownsRow w.heap.size 66 7 v' (n + 1) xs') (hg : (wr.alloc o).grownBy w1 v.ownBlock) : Ss w w1 v' (n + 1) xs' := by
  have hb : ∀ i, i < w.heap.size → w1.heap[i]? = wr.heap[i]? := fun i hi => by
    have hs := h.bel.size
    rw [hg.block i (by simp; omega) (fun e => by have := h.own.lt i e.symm; omega)]
    exact (alloc_below wr o).block i (by omega)
  exact ⟨hown, ⟨hg.os.trans h.bel.os, hg.tape.trans h.bel.tape, hg.output.trans h.bel.output, Nat.le_trans h.bel.size (Nat.le_trans (by simp) hg.size), fun i hi => (hb i hi).trans (h.bel.block i hi)⟩⟩
theorem Ss.form {w wr : World} {v : Value} {n : Nat} {xs : List Value} (h : Ss w wr v n xs) : ∃ ad cp, v = .slice ad n cp := by
  rcases h.own.2 with ⟨rfl, rfl⟩ | ⟨g, cap, cur, rfl, _⟩
  · exact ⟨_, _, rfl⟩
  · exact ⟨_, _, rfl⟩
theorem Tryz.infoSl : (Tryz.prog.info? 66).map (fun i => (i.zero, i.size, i.bytes)) = some (some (.agg #[.int .i64 0, .int .i64 0, .bool false, .int .i64 0, .int .i64 0, .int .i64 0, .slice none 0 0]), 7, 72) := by kernel_rfl
theorem oneS (v : Sv) (d : Option Addr × Nat) : ∀ u ∈ svC v d, u.oneCell' = true := by
  intro u hu
  simp [svC] at hu
  rcases hu with rfl | rfl | rfl | rfl | rfl | rfl | rfl <;> rfl
theorem put_grown (w : World) (P i : Nat) (x : Value) : w.grownBy (w.setCell ⟨P, i, none⟩ x).drew (some P) :=
  ⟨rfl, rfl, rfl, by simp [World.setCell, World.drew], fun k hk hne => Below.heap_setCell _ _ _ _ (by intro e; exact hne (by simpa using e))⟩
theorem sl_12 {w : World} {P : Nat} {x0 x3 x4 x5 x6 : Value} {m0 : Int} {y : Value} (h : w.heap[P]? = some (.cells #[x0, .int .i64 m0, y, x3, x4, x5, x6] 66 (0, 0))) : (w.setCell ⟨P, 2, none⟩ (.bool true)).drew.cell? ⟨P, 1, none⟩ = some (.int .i64 m0) ∧ (w.setCell ⟨P, 2, none⟩ (.bool true)).drew.cell? ⟨P, 2, none⟩ = some (.bool true) := by
  have h2 : (w.setCell ⟨P, 2, none⟩ (.bool true)).drew.heap[P]? = some (.cells #[x0, .int .i64 m0, .bool true, x3, x4, x5, x6] 66 (0, 0)) := Mm.heap_setCell_at h _
  simp [World.cell?, h2]
/-- A slot's block, its gray turned. -/
theorem sl_put {w : World} {P : Nat} {x0 x1 x2 x3 x4 x5 x6 y : Value} (h : w.heap[P]? = some (.cells #[x0, x1, x2, x3, x4, x5, x6] 66 (0, 0))) : (w.setCell ⟨P, 2, none⟩ y).heap[P]? = some (.cells #[x0, x1, y, x3, x4, x5, x6] 66 (0, 0)) := Mm.heap_setCell_at h y
theorem sl_cells {w : World} {P : Nat} {x0 x1 x2 x3 x4 x5 x6 : Value} (h : w.heap[P]? = some (.cells #[x0, x1, x2, x3, x4, x5, x6] 66 (0, 0))) : w.cell? ⟨P, 0, none⟩ = some x0 ∧ w.cell? ⟨P, 1, none⟩ = some x1 ∧ w.cell? ⟨P, 2, none⟩ = some x2 ∧ w.cell? ⟨P, 3, none⟩ = some x3 ∧ w.cell? ⟨P, 4, none⟩ = some x4 ∧ w.cell? ⟨P, 5, none⟩ = some x5 ∧ w.cell? ⟨P, 6, none⟩ = some x6 := by simp [World.cell?, h]

set_option maxRecDepth 100000 in
set_option maxHeartbeats 8000000 in
theorem sane_own {ad : Option Addr} {n cap e : Nat} {Z : Nat → Sv} {D : Nat → Option Addr × Nat} (hn : n < 9223372036854775808) (he : e < 18446744073709551616) {w : World}
    (hr : ∀ i, i < n → ∃ b off, ad = some ⟨b, off, none⟩ ∧ b < w.heap.size ∧ w.cell? ⟨b, off + i * 7, none⟩ = some (.int .i64 (Z i).h.k) ∧ w.cell? ⟨b, off + i * 7 + 1, none⟩ = some (.int .i64 (Z i).h.m) ∧ w.cell? ⟨b, off + i * 7 + 2, none⟩ = some (.bool (Z i).h.g) ∧ w.cell? ⟨b, off + i * 7 + 3, none⟩ = some (.int .i64 (Z i).h.a) ∧ w.cell? ⟨b, off + i * 7 + 4, none⟩ = some (.int .i64 (Z i).h.n) ∧ w.cell? ⟨b, off + i * 7 + 5, none⟩ = some (.int .i64 (Z i).h.s) ∧ w.cell? ⟨b, off + i * 7 + 6, none⟩ = some (.slice (D i).1 (Z i).bl (D i).2)) :
    Calls Tryz.prog 10 #[.slice ad n cap, .int .u64 (e : Nat)] w fun r w' => ∃ v, r = .returned v ∧ ∃ m, m ≤ n ∧ m ≤ 21 ∧ Ss w w' v m (snL Z D e m) := by
  obtain ⟨i0, hi, hz0, hz1, hz2⟩ := info_parts Tryz.infoSl
  have cB := fun w => Hh.rblack_nat e he w
  have HC := hid1 (fun (i : Nat) (hi : i < n) (wr : World) (bel : Below w.heap.size w wr) => (by
    obtain ⟨b, off, h0, h1, h2, h3, h4, h5, h6, h7, h8⟩ := hr i hi
    exact ⟨b, off, h0, (bel.cell (p := ⟨b, off + i * 7, none⟩) h1).trans h2, (bel.cell (p := ⟨b, off + i * 7 + 1, none⟩) h1).trans h3, (bel.cell (p := ⟨b, off + i * 7 + 2, none⟩) h1).trans h4, (bel.cell (p := ⟨b, off + i * 7 + 3, none⟩) h1).trans h5, (bel.cell (p := ⟨b, off + i * 7 + 4, none⟩) h1).trans h6, (bel.cell (p := ⟨b, off + i * 7 + 5, none⟩) h1).trans h7, (bel.cell (p := ⟨b, off + i * 7 + 6, none⟩) h1).trans h8⟩ :
    ∃ b off, ad = some ⟨b, off, none⟩ ∧ wr.cell? ⟨b, off + i * 7, none⟩ = some (.int .i64 (Z i).h.k) ∧ wr.cell? ⟨b, off + i * 7 + 1, none⟩ = some (.int .i64 (Z i).h.m) ∧ wr.cell? ⟨b, off + i * 7 + 2, none⟩ = some (.bool (Z i).h.g) ∧ wr.cell? ⟨b, off + i * 7 + 3, none⟩ = some (.int .i64 (Z i).h.a) ∧ wr.cell? ⟨b, off + i * 7 + 4, none⟩ = some (.int .i64 (Z i).h.n) ∧ wr.cell? ⟨b, off + i * 7 + 5, none⟩ = some (.int .i64 (Z i).h.s) ∧ wr.cell? ⟨b, off + i * 7 + 6, none⟩ = some (.slice (D i).1 (Z i).bl (D i).2)))
  have is : Ss w w (.slice none 0 0) 0 (snL Z D e 0) := ⟨World.ownsRow_nil _ _ _ _, Below.refl _ _⟩
  clear hr
  go_enter Tryz.func10, Tryz.ntmps10
  go_upto_region 3 with fail
  go_loopw [5, 6] (fun l i wr => ∃ (k : Nat), k ≤ n ∧ k ≤ 21 ∧ i = .int .i64 k ∧ Ss w wr l k (snL Z D e k)) (fun _ i _ => 21 - (intOf i).toNat)
  case atStart => exact ⟨0, Nat.zero_le _, by omega, rfl, is⟩
  case round =>
    clear is
    obtain ⟨k1, hk, hk21, rfl, is⟩ := hrel
    obtain ⟨ad1, cp1, hv1⟩ := Ss.form is
    subst hv1
    by_cases hl : k1 < n
    · have hl1 : (k1 : Int) < (n : Int) := by omega
      have hl0 : (0 : Int) ≤ (k1 : Int) := by omega
      by_cases hd : k1 ≤ 20
      · have hd1 : (k1 : Int) ≤ 20 := by omega
        have e3 : IntKind.i64.wrap ((k1 : Int) + 1) = ((k1 + 1 : Nat) : Int) := by rw [IntKind.wrap_i64]; omega
        obtain ⟨b, off, rfl, y0, y1, y2, y3, y4, y5, y6⟩ := HC.out k1 hl _ is.bel
        have hst : Hid (snL Z D e (k1 + 1) = snL Z D e k1 ++ svC (snV e (Z k1)) (D k1)) := hid1 rfl
        obtain ⟨gx, hgx⟩ : ∃ gx, snG e (Z k1) = gx := ⟨_, rfl⟩
        have hcs : Hid (svC (snV e (Z k1)) (D k1) = [.int .i64 (Z k1).h.k, .int .i64 (Z k1).h.m, .bool gx, .int .i64 (Z k1).h.a, .int .i64 (Z k1).h.n, .int .i64 (Z k1).h.s, .slice (D k1).1 (Z k1).bl (D k1).2]) := hid1 (by rw [← hgx]; rfl)
        have hone := hid1 (oneS (snV e (Z k1)) (D k1))
        unfold snG at hgx
        obtain ⟨bk, hbk⟩ : ∃ bk : Int, ((blackN e : Nat) : Int) = bk := ⟨_, rfl⟩
        rw [hbk] at cB hgx
        clear hbk
        generalize svC (snV e (Z k1)) (D k1) = cs1 at *
        generalize (Z k1).h.k = k0 at *
        generalize (Z k1).h.m = m0 at *
        generalize (Z k1).h.g = g0 at *
        generalize (Z k1).h.a = a0 at *
        generalize (Z k1).h.n = n0 at *
        generalize (Z k1).h.s = s0 at *
        generalize (D k1).1 = dA at *
        generalize (D k1).2 = dB at *
        generalize (Z k1).bl = bl at *
        generalize hk2 : k1 + 1 = k2 at *
        replace hk2 := hid1 hk2
        rename_i wr
        go_upto_region 6 with fail
        have b1 := alloc_below wr (.cells #[.int .i64 k0, .int .i64 m0, .bool g0, .int .i64 a0, .int .i64 n0, .int .i64 s0, .slice dA bl dB] 66)
        have hP := new_obj wr (.cells #[.int .i64 k0, .int .i64 m0, .bool g0, .int .i64 a0, .int .i64 n0, .int .i64 s0, .slice dA bl dB] 66)
        have hPo : ∀ g, (Value.slice ad1 k1 cp1).ownBlock = some g → g ≠ wr.heap.size := fun g hg => by have := (is.own.lt g hg).2; omega
        have hPb := is.bel.size
        replace is := is.below b1
        generalize wr.alloc (.cells #[.int .i64 k0, .int .i64 m0, .bool g0, .int .i64 a0, .int .i64 n0, .int .i64 s0, .slice dA bl dB] 66) = w4 at *
        generalize wr.heap.size = P at *
        clear b1 y0 y1 y2 y3 y4 y5 y6
        have hfz : w4.frozen? ⟨P, 2, none⟩ = false := by simp [World.frozen?, hP]
        obtain ⟨x0, x1, x2, x3, x4, x5, x6⟩ := sl_cells hP
        cases g0 with
        | false =>
          obtain rfl : false = gx := by simpa using hgx
          clear hgx
          have hPlt := lt_of_block hP
          go_big_region
          have hP2 : (w4.setCell ⟨P, 2, none⟩ (.bool false)).drew.heap[P]? = some (.cells #[.int .i64 k0, .int .i64 m0, .bool false, .int .i64 a0, .int .i64 n0, .int .i64 s0, .slice dA bl dB] 66 (0, 0)) := sl_put hP
          have b2 : Below w.heap.size w (w4.setCell ⟨P, 2, none⟩ (.bool false)).drew := (is.bel.setCell (p := ⟨P, 2, none⟩) hPb _).drew
          have is2 : Ss w (w4.setCell ⟨P, 2, none⟩ (.bool false)).drew (.slice ad1 k1 cp1) k1 (snL Z D e k1) := ⟨is.own.kept (put_grown w4 P 2 (.bool false)) (.inr (fun e => hPo P e rfl)), b2⟩
          clear is hP hPo b2 x0 x1 x2 x3 x4 x5 x6 hfz hPb
          generalize (w4.setCell ⟨P, 2, none⟩ (.bool false)).drew = w5 at *
          obtain ⟨x0, x1, x2, x3, x4, x5, x6⟩ := sl_cells hP2
          go_wp2_with (at_builtin; refine wpList_append_own _ rfl _ _ 24 rfl w.heap.size 66 i0 _ 7 72 Tryz.underlying24 hi hz0 hz1 hz2 rfl (by decide) _ _ _ rfl (is2.own.alloc _) ⟨_, 0, none⟩ 1 1 [.int .i64 k0, .int .i64 m0, .bool false, .int .i64 a0, .int .i64 n0, .int .i64 s0, .slice dA bl dB] rfl rfl (fun j u hj => new_news _ _ _ j u hj) (by have := hone.out; rw [hcs.out] at this; exact this) ?c3 ?c4 ?c5 ?_)
          case c3 => unfold maxLen; omega
          case c4 => omega
          case c5 => have := is2.bel.size; simp; omega
          · intro v' w6 hown hgrow _
            have st' := is2.step _ hown hgrow
            rw [← hcs.out, ← hst.out, hk2.out] at st'
            clear hown hgrow x0 x1 x2 x3 x4 x5 x6 is2 hP2
            obtain ⟨ad2, cp2, hv2⟩ := Ss.form st'
            subst hv2
            go_wp2
            go_roundw
            case rel => exact ⟨k2, by have := hk2.out; omega, by have := hk2.out; omega, rfl, st'⟩
            case measure => (have := hk2.out; simp [intOf]; omega)
        | true =>
          obtain ⟨z0, z1, z2, z3, z4, z5, z6⟩ := sl_cells (w := w4.drew) hP
          by_cases hm : m0 = bk
          · obtain rfl : true = gx := by simpa [hm] using hgx
            subst hm
            go_region_held (fun wq => wq.cell? ⟨P, 1, none⟩ = some (.int .i64 m0) ∧ wq.cell? ⟨P, 2, none⟩ = some (.bool true)) (first | with_reducible exact ⟨z1, z2⟩ | with_reducible exact sl_12 hP) ((go_at_call 41; with_reducible refine (cB _).mono ?_; rintro r wq ⟨rfl, rfl⟩))
            clear z0 z1 z2 z3 z4 z5 z6
            have hP2 : (w4.setCell ⟨P, 2, none⟩ (.bool true)).drew.heap[P]? = some (.cells #[.int .i64 k0, .int .i64 m0, .bool true, .int .i64 a0, .int .i64 n0, .int .i64 s0, .slice dA bl dB] 66 (0, 0)) := sl_put hP
            have b2 : Below w.heap.size w (w4.setCell ⟨P, 2, none⟩ (.bool true)).drew := (is.bel.setCell (p := ⟨P, 2, none⟩) hPb _).drew
            have is2 : Ss w (w4.setCell ⟨P, 2, none⟩ (.bool true)).drew (.slice ad1 k1 cp1) k1 (snL Z D e k1) := ⟨is.own.kept (put_grown w4 P 2 (.bool true)) (.inr (fun e => hPo P e rfl)), b2⟩
            clear is hP hPo b2 x0 x1 x2 x3 x4 x5 x6 hfz hPb
            generalize (w4.setCell ⟨P, 2, none⟩ (.bool true)).drew = w5 at *
            obtain ⟨x0, x1, x2, x3, x4, x5, x6⟩ := sl_cells hP2
            go_wp2_with (at_builtin; refine wpList_append_own _ rfl _ _ 24 rfl w.heap.size 66 i0 _ 7 72 Tryz.underlying24 hi hz0 hz1 hz2 rfl (by decide) _ _ _ rfl (is2.own.alloc _) ⟨_, 0, none⟩ 1 1 [.int .i64 k0, .int .i64 m0, .bool true, .int .i64 a0, .int .i64 n0, .int .i64 s0, .slice dA bl dB] rfl rfl (fun j u hj => new_news _ _ _ j u hj) (by have := hone.out; rw [hcs.out] at this; exact this) ?c3 ?c4 ?c5 ?_)
            case c3 => unfold maxLen; omega
            case c4 => omega
            case c5 => have := is2.bel.size; simp; omega
            · intro v' w6 hown hgrow _
              have st' := is2.step _ hown hgrow
              rw [← hcs.out, ← hst.out, hk2.out] at st'
              clear hown hgrow x0 x1 x2 x3 x4 x5 x6 is2 hP2
              obtain ⟨ad2, cp2, hv2⟩ := Ss.form st'
              subst hv2
              go_wp2
              go_roundw
              case rel => exact ⟨k2, by have := hk2.out; omega, by have := hk2.out; omega, rfl, st'⟩
              case measure => (have := hk2.out; simp [intOf]; omega)
          · obtain rfl : false = gx := by simpa [hm] using hgx
            have hm2 : decide (m0 = bk) = false := decide_eq_false hm
            have hm3 : (m0 == bk) = false := by simpa using hm
            clear hgx
            go_region_with ((go_at_call 41; with_reducible refine (cB _).mono ?_; rintro r wq ⟨rfl, rfl⟩))
            all_goals clear z0 z1 z2 z3 z4 z5 z6 hm hm2 hm3
            all_goals
              have hP2 : (w4.setCell ⟨P, 2, none⟩ (.bool false)).drew.heap[P]? = some (.cells #[.int .i64 k0, .int .i64 m0, .bool false, .int .i64 a0, .int .i64 n0, .int .i64 s0, .slice dA bl dB] 66 (0, 0)) := sl_put hP
              have b2 : Below w.heap.size w (w4.setCell ⟨P, 2, none⟩ (.bool false)).drew := (is.bel.setCell (p := ⟨P, 2, none⟩) hPb _).drew
              have is2 : Ss w (w4.setCell ⟨P, 2, none⟩ (.bool false)).drew (.slice ad1 k1 cp1) k1 (snL Z D e k1) := ⟨is.own.kept (put_grown w4 P 2 (.bool false)) (.inr (fun e => hPo P e rfl)), b2⟩
              clear is hP hPo b2 x0 x1 x2 x3 x4 x5 x6 hfz hPb
              generalize (w4.setCell ⟨P, 2, none⟩ (.bool false)).drew = w5 at *
              obtain ⟨x0, x1, x2, x3, x4, x5, x6⟩ := sl_cells hP2
              go_wp2_with (at_builtin; refine wpList_append_own _ rfl _ _ 24 rfl w.heap.size 66 i0 _ 7 72 Tryz.underlying24 hi hz0 hz1 hz2 rfl (by decide) _ _ _ rfl (is2.own.alloc _) ⟨_, 0, none⟩ 1 1 [.int .i64 k0, .int .i64 m0, .bool false, .int .i64 a0, .int .i64 n0, .int .i64 s0, .slice dA bl dB] rfl rfl (fun j u hj => new_news _ _ _ j u hj) (by have := hone.out; rw [hcs.out] at this; exact this) ?c3 ?c4 ?c5 ?_)
              case c3 => unfold maxLen; omega
              case c4 => omega
              case c5 => have := is2.bel.size; simp; omega
              · intro v' w6 hown hgrow _
                have st' := is2.step _ hown hgrow
                rw [← hcs.out, ← hst.out, hk2.out] at st'
                clear hown hgrow x0 x1 x2 x3 x4 x5 x6 is2 hP2
                obtain ⟨ad2, cp2, hv2⟩ := Ss.form st'
                subst hv2
                go_wp2
                go_roundw
                case rel => exact ⟨k2, by have := hk2.out; omega, by have := hk2.out; omega, rfl, st'⟩
                case measure => (have := hk2.out; simp [intOf]; omega)
      · obtain rfl : k1 = 21 := by omega
        have hd1 : ¬ ((21 : Nat) : Int) ≤ 20 := by omega
        clear HC cB
        go_wp2
        go_ret
        exact ⟨_, rfl, 21, hk, Nat.le_refl _, is⟩
    · obtain rfl : k1 = n := by omega
      have hl1 : ¬ (k1 : Int) < (k1 : Int) := by omega
      clear HC cB
      go_wp2
      go_ret
      exact ⟨_, rfl, k1, Nat.le_refl _, hk21, is⟩
end Go.Proofs.YtcioomopgdhlmaaGreatDoor
/- The reference's Sane as a slice that is read; the nil cases of the reference's Found, and of Same. -/
namespace Go.Proofs.YtcioomopgdhlmaaGreatDoor
open Go.RowKit
open Mm (IsMem MS touched Only IsWords)
open Hh (WT okW wordOf IsHd blackN)

theorem sane_any {ad : Option Addr} {n cap e : Nat} {Z : Nat → Sv} (hn : n < 9223372036854775808) (he : e < 18446744073709551616) {w : World} (hr : RdV w ad n Z) :
    Calls Tryz.prog 10 #[.slice ad n cap, .int .u64 (e : Nat)] w fun r w' => ∃ ad' m cap', r = .returned (.slice ad' m cap') ∧ m ≤ 21 ∧ Below w.heap.size w w' ∧ ∃ Z', RdV w' ad' m Z' := by
  obtain ⟨D, hD⟩ : ∃ D : Nat → Option Addr × Nat, ∀ i, i < n → ∃ b off, ad = some ⟨b, off, none⟩ ∧ b < w.heap.size ∧
      (w.cell? ⟨b, off + i * 7, none⟩ = some (.int .i64 (Z i).h.k) ∧ w.cell? ⟨b, off + i * 7 + 1, none⟩ = some (.int .i64 (Z i).h.m) ∧ w.cell? ⟨b, off + i * 7 + 2, none⟩ = some (.bool (Z i).h.g) ∧ w.cell? ⟨b, off + i * 7 + 3, none⟩ = some (.int .i64 (Z i).h.a) ∧ w.cell? ⟨b, off + i * 7 + 4, none⟩ = some (.int .i64 (Z i).h.n) ∧ w.cell? ⟨b, off + i * 7 + 5, none⟩ = some (.int .i64 (Z i).h.s)) ∧
      w.cell? ⟨b, off + i * 7 + 6, none⟩ = some (.slice (D i).1 (Z i).bl (D i).2) ∧ (Z i).bl < 9223372036854775808 ∧ ∀ j, j < (Z i).bl → ∃ b' off', (D i).1 = some ⟨b', off', none⟩ ∧ b' < w.heap.size ∧ w.cell? ⟨b', off' + j, none⟩ = some (.int .u64 ((Z i).b j : Nat)) ∧ (Z i).b j < 18446744073709551616 := by
    have h : ∀ i, ∃ d : Option Addr × Nat, i < n → ∃ b off, ad = some ⟨b, off, none⟩ ∧ b < w.heap.size ∧
      (w.cell? ⟨b, off + i * 7, none⟩ = some (.int .i64 (Z i).h.k) ∧ w.cell? ⟨b, off + i * 7 + 1, none⟩ = some (.int .i64 (Z i).h.m) ∧ w.cell? ⟨b, off + i * 7 + 2, none⟩ = some (.bool (Z i).h.g) ∧ w.cell? ⟨b, off + i * 7 + 3, none⟩ = some (.int .i64 (Z i).h.a) ∧ w.cell? ⟨b, off + i * 7 + 4, none⟩ = some (.int .i64 (Z i).h.n) ∧ w.cell? ⟨b, off + i * 7 + 5, none⟩ = some (.int .i64 (Z i).h.s)) ∧
      w.cell? ⟨b, off + i * 7 + 6, none⟩ = some (.slice d.1 (Z i).bl d.2) ∧ (Z i).bl < 9223372036854775808 ∧ ∀ j, j < (Z i).bl → ∃ b' off', d.1 = some ⟨b', off', none⟩ ∧ b' < w.heap.size ∧ w.cell? ⟨b', off' + j, none⟩ = some (.int .u64 ((Z i).b j : Nat)) ∧ (Z i).b j < 18446744073709551616 := by
      intro i
      by_cases hi : i < n
      · obtain ⟨b, off, h1, h2, h3, bad, bcap, h4, h5, h6⟩ := hr i hi
        exact ⟨(bad, bcap), fun _ => ⟨b, off, h1, h2, h3, h4, h5, h6⟩⟩
      · exact ⟨(none, 0), fun h => absurd h hi⟩
    exact Classical.axiomOfChoice h
  refine (sane_own (cap := cap) (Z := Z) (D := D) hn he (fun i hi => by
    obtain ⟨b, off, h1, h2, ⟨h3, h4, h5, h6, h7, h8⟩, h9, _⟩ := hD i hi
    exact ⟨b, off, h1, h2, h3, h4, h5, h6, h7, h8, h9⟩)).mono fun r w' ⟨v, hv, m, hm, h21, st⟩ => ?_
  rcases st.own.2 with ⟨h1, h2⟩ | ⟨g, cap', cur, h1, hb, hh, h3, h4, h5, h6⟩
  · subst h1 h2
    exact ⟨_, _, _, hv, Nat.zero_le _, st.bel, Z, fun i hi => absurd hi (by omega)⟩
  · subst h1
    refine ⟨_, _, _, hv, h21, st.bel, fun i => snV e (Z i), fun i hi => ?_⟩
    have key : ∀ j u, j < 7 → (svC (snV e (Z i)) (D i))[j]? = some u → w'.cell? ⟨g, 0 + i * 7 + j, none⟩ = some u := fun j u hj hu => by
      have q := st.own.cells (g := g) rfl (i * 7 + j) u (by rw [snL_at Z D e hj m hi]; exact hu)
      rw [add_none] at q
      rw [show 0 + i * 7 + j = 0 + (i * 7 + j) by omega]
      exact q
    obtain ⟨b, off, _, _, _, _, h10, h11⟩ := hD i (by omega)
    refine ⟨g, 0, rfl, lt_of_block hh, ⟨key 0 _ (by omega) rfl, key 1 _ (by omega) rfl, key 2 _ (by omega) rfl, key 3 _ (by omega) rfl, key 4 _ (by omega) rfl, key 5 _ (by omega) rfl⟩, (D i).1, (D i).2, key 6 _ (by omega) rfl, h10, fun j hj => ?_⟩
    obtain ⟨b', off', k1, k2, k3, k4⟩ := h11 j hj
    exact ⟨b', off', k1, Nat.lt_of_lt_of_le k2 st.bel.size, (st.bel.cell (p := ⟨b', off' + j, none⟩) k2).trans k3, k4⟩

set_option maxHeartbeats 2000000 in
theorem rfound_no {s a c d g k : Int} (hr : rightB s a c d g k = false) {ad : Option Addr} {n cap e : Nat} (w : World) :
    Calls Tryz.prog 7 #[.agg (cs s a c d g k), .slice ad n cap, .int .u64 (e : Nat)] w fun r w' => r = .returned (.slice none 0 0) ∧ Below w.heap.size w w' := by
  have c8 := rright_any s a c d g k
  rw [hr] at c8
  have h1 := cfg_new w s a c d g k
  have bel := alloc_below w (.cells #[.int .i64 s, .int .i64 a, .int .i64 c, .int .i64 d, .int .i64 g, .int .i64 k] 23)
  clear hr
  unfold cs at *
  go_enter Tryz.func7, Tryz.ntmps7
  go_upto_region 1 with fail
  generalize World.alloc _ _ = w0 at *
  obtain ⟨x0, x1, x2, x3, x4, x5⟩ := h1.cells
  go_wp2_with (go_at_call 26; with_reducible refine (c8 _).mono ?_; rintro r w1 ⟨rfl, b1⟩; replace bel := seq_below bel b1; clear b1 x0 x1 x2 x3 x4 x5)
  go_ret
  exact ⟨rfl, bel⟩
set_option maxHeartbeats 2000000 in
theorem rfound_len {K : Cf} (hK : K.Ok) {ad : Option Addr} {n cap e : Nat} (hn : n ≠ K.N) (w : World) :
    Calls Tryz.prog 7 #[.agg K.cs, .slice ad n cap, .int .u64 (e : Nat)] w fun r w' => r = .returned (.slice none 0 0) ∧ Below w.heap.size w w' := by
  have c8 := right_any
  have cR := fun w => rright_any K.S K.a K.C K.D K.g K.k w
  rw [hK.r] at cR
  have cW := fun w => words_r K.C K.D K.S K.B K.a K.g K.k hK.c8 hK.d16 hK.s64 hK.b hK.b8 w
  have hNN : nW K.C K.D K.B K.S = K.N := rfl
  rw [hNN] at cW
  clear hNN c8
  have h1 := cfg_new w K.S K.a K.C K.D K.g K.k
  have bel := alloc_below w (.cells #[.int .i64 (K.S : Nat), .int .i64 K.a, .int .i64 (K.C : Nat), .int .i64 (K.D : Nat), .int .i64 K.g, .int .i64 K.k] 23)
  have hne : ((n : Int) != (K.N : Int)) = true := by simp; omega
  have hne2 : ¬ (n : Int) = (K.N : Int) := by omega
  clear hK hn
  unfold Cf.cs at *
  unfold cs at *
  go_enter Tryz.func7, Tryz.ntmps7
  go_upto_region 1 with fail
  generalize World.alloc _ _ = w0 at *
  obtain ⟨x0, x1, x2, x3, x4, x5⟩ := h1.cells
  go_wp2_with (first
    | (go_at_call 26; with_reducible refine (cR _).mono ?_; rintro r w1 ⟨rfl, b1⟩; replace bel := seq_below bel b1; replace h1 := h1.below b1; clear b1 x0 x1 x2 x3 x4 x5; obtain ⟨x0, x1, x2, x3, x4, x5⟩ := h1.cells)
    | (go_at_call 27; with_reducible refine (cW _).mono ?_; rintro r w2 ⟨RW, capW, rfl, _, _, b2⟩; replace bel := seq_below bel b2; clear b2 x0 x1 x2 x3 x4 x5))
  go_ret
  exact ⟨rfl, bel⟩
theorem same_nil (w : World) : Calls Tryz.prog 5 #[.slice none 0 0, .slice none 0 0] w fun r w' => r = .returned (.bool true) ∧ Below w.heap.size w w' := by
  go_enter Tryz.func5, Tryz.ntmps5
  go_upto_region 4 with fail
  go_loopw [5] (fun i wr => i = .int .i64 0 ∧ Below w.heap.size w wr) (fun _ _ => 0)
  case atStart => exact ⟨rfl, Below.refl _ _⟩
  case round =>
    obtain ⟨rfl, bel⟩ := hrel
    go_wp2
    go_ret
    exact ⟨rfl, bel⟩
/-- What both come to is the same. -/
theorem found_same {K : Cf} {X : List Nat} {e : Nat} {M Fd : Nat → Bool} (h1 : Pi (gp K X e) [] [] M) (h2 : RfD K X e Fd) : bools K.S M = bools K.S Fd := by
  obtain ⟨Th, L, k, h3, h4⟩ := h2
  have : M = Fd := by funext s; exact both_same (gp_ok K X e) h1 h3 h4 s
  rw [this]
end Go.Proofs.YtcioomopgdhlmaaGreatDoor
