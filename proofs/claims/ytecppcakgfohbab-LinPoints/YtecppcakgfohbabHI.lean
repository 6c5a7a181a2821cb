/- hist.sorted, hist.Order. -/
import Derived.Test.YtecppcakgfohbabHG
import Derived.Test.YtecppcakgfohbabHH
namespace Go.Proofs.Ytecppcakgfohbab
open Go.RowKit Go.Sort
set_option linter.unusedVariables false

theorem SR.rdz {w0 W : World} {B off n : Nat} {d : Array Nat} (h : SR w0 B off n d W) : RdZ W (some ⟨B, off, none⟩) (d.toList.map fun (x : Nat) => (x : Int)) := fun i x hi => by
  obtain ⟨cur, h1, _⟩ := h.row
  rw [List.getElem?_map] at hi
  cases hd : d.toList[i]? with
  | none => rw [hd] at hi; cases hi
  | some y =>
    rw [hd] at hi
    obtain rfl : (y : Int) = x := by simpa using hi
    have hl := (List.getElem?_eq_some_iff.1 hd).1
    have hin : i < n := by rw [← h.len]; simpa using hl
    refine ⟨B, off, rfl, lt_of_block h1, ?_⟩
    rw [h.cell i hin, getElem!_pos d i (by rw [h.len]; exact hin)]
    have e := (List.getElem?_eq_some_iff.1 hd).2
    simp at e
    rw [e]
    rfl
theorem SR.bel {w w0 W : World} {B off n : Nat} {d : Array Nat} (h : SR w0 B off n d W) (b : Below w.heap.size w w0) (hB : w.heap.size ≤ B) : Below w.heap.size w W :=
  ⟨h.os.trans b.os, h.tape.trans b.tape, h.output.trans b.output, Nat.le_trans b.size h.size, fun k hk => (h.block k (Nat.lt_of_lt_of_le hk b.size) (by omega)).trans (b.block k hk)⟩
set_option maxRecDepth 100000 in
set_option maxHeartbeats 4000000 in
theorem sortP_any {w : World} {ad : Option Addr} {n : Nat} (cap : Nat) {E : List Ev} (hE : n = E.length) (hR : RdEv w ad E) (hn : n < 400000000) :
    Calls Try.prog 34 #[.slice ad n cap, .func (.func 37) #[] #[]] w fun r w' => ∃ a l, r = .returned (.slice a n n) ∧ IsOrd (ltN (evP E)) n l ∧ RdZ w' a (l.map fun (x : Nat) => (x : Int)) ∧ Below w.heap.size w w' := by
  have hmk : ∀ wr, (Instr.makeSlice 25 (.int .i64 (n : Nat)) (.int .i64 (n : Nat))).run Try.prog wr = .ok (.slice (some ⟨wr.heap.size, 0, none⟩) n n) (wr.alloc (.cells (ascA n 0) 3)) := fun wr => by
    rw [← ascA_made]
    exact run_make_row' 25 3 (.int .i64 0) 8 Try.underlying25 Try.info3' rfl .i64 .i64 n (by omega) (by omega) wr
  have hA := new_obj w (.cells #[.slice ad n cap] 24)
  have b1 := alloc_below w (.cells #[.slice ad n cap] 24)
  have z1 : (w.alloc (.cells #[.slice ad n cap] 24)).heap.size = w.heap.size + 1 := by simp
  generalize hw0 : w.alloc (.cells #[.slice ad n cap] 24) = w0 at hA b1 z1
  have hB := new_obj w0 (.cells #[.func (.func 37) #[] #[]] 76)
  have b2 := alloc_below w0 (.cells #[.func (.func 37) #[] #[]] 76)
  replace hA := (b2.block _ (lt_of_block hA)).trans hA
  rw [z1] at hB
  have bel := seq_below b1 b2
  have z2 : (w0.alloc (.cells #[.func (.func 37) #[] #[]] 76)).heap.size = w.heap.size + 2 := by simp [z1]
  replace hw0 := hid1 hw0
  clear b1 b2 z1
  replace hE := hid1 hE
  have hR := hid1 hR
  go_enter Try.func34, Try.ntmps34
  go_upto_region 1 with fail
  rw [hw0.out]
  clear hw0
  generalize World.alloc _ _ = w1 at *
  generalize hbc : w.heap.size = bq at hA hB z2 ⊢
  replace hbc := hid1 hbc
  obtain ⟨bb, hbb⟩ : ∃ ba, bq + 1 = ba := ⟨_, rfl⟩
  rw [hbb] at hB ⊢
  replace hbb := hid1 hbb
  have x1 : w1.cell? ⟨bq, 0, none⟩ = some (.slice ad n cap) := by simp [World.cell?, hA]
  have hg := new_obj w1 (.cells (ascA n 0) 3)
  have b3 := alloc_below w1 (.cells (ascA n 0) 3)
  have x2 : (w1.alloc (.cells (ascA n 0) 3)).cell? ⟨bq, 0, none⟩ = some (.slice ad n cap) := (b3.cell (p := ⟨bq, 0, none⟩) (lt_of_block hA)).trans x1
  replace hA := (b3.block _ (lt_of_block hA)).trans hA
  replace hB := (b3.block _ (lt_of_block hB)).trans hB
  have bG := seq_below bel b3
  clear bel b3 x2
  obtain ⟨g, hgs⟩ : ∃ g, w1.heap.size = g := ⟨_, rfl⟩
  have hgq := hid1 (show bq + 2 = g by rw [← hgs]; exact z2.symm)
  clear z2
  rw [hgs] at hg
  replace hgs := hid1 hgs
  go_upto_region 2 with fail
  rw [hgs.out]
  generalize World.alloc _ _ = w2 at *
  clear x1 hgs
  have hAh := hid1 hA
  have hBh := hid1 hB
  have hgh := hid1 hg
  have bGh := hid1 bG
  clear hA hB hg bG
  go_wp2
  go_loopg [6, 12] n (fun g1 _ vi wr => ∃ (k : Nat), vi = .int .i64 k ∧ k ≤ n ∧ n - k ≤ g1 ∧ Hid (wr.heap[g]? = some (.cells (ascA n k) 3 (0, 0)) ∧ Below w.heap.size w wr ∧ wr.heap[bq]? = some (.cells #[.slice ad n cap] 24 (0, 0)) ∧ wr.heap[bb]? = some (.cells #[.func (.func 37) #[] #[]] 76 (0, 0)) ))
  case atStart => exact ⟨0, by go_num, Nat.zero_le _, by omega, hid1 ⟨hgh.out, bGh.out, hAh.out, hBh.out⟩⟩
  case round =>
    clear hgh bGh hAh hBh
    obtain ⟨k, rfl, hk, hg1, I⟩ := hrel
    by_cases hlt : k < n
    · have hltz : (k : Int) < (n : Int) := by omega
      obtain ⟨i1, i2, i3, i4⟩ := I.out
      have y1 : wr.cell? ⟨g, k, none⟩ = some (.int .i64 0) := by
        simp only [World.cell?, i1]
        show (ascA n k)[k]? = _
        rw [ascA_at, if_pos hlt, if_neg (by omega)]
      have y2 := cells_freeH i1 k
      have ng : g ≠ bq ∧ g ≠ bb := by have := hgq.out; have := hbb.out; omega
      have gw : w.heap.size ≤ g := by have := hgq.out; have := hbc.out; omega
      have I2 := hid1 (show (wr.setCell ⟨g, k, none⟩ (.int .i64 (k : Int))).heap[g]? = some (.cells (ascA n (k + 1)) 3 (0, 0)) ∧ Below w.heap.size w (wr.setCell ⟨g, k, none⟩ (.int .i64 (k : Int))) ∧ (wr.setCell ⟨g, k, none⟩ (.int .i64 (k : Int))).heap[bq]? = some (.cells #[.slice ad n cap] 24 (0, 0)) ∧ (wr.setCell ⟨g, k, none⟩ (.int .i64 (k : Int))).heap[bb]? = some (.cells #[.func (.func 37) #[] #[]] 76 (0, 0)) from
        ⟨by rw [← ascA_set hlt]; exact heap_putH i1 _, i2.setCell (p := ⟨g, k, none⟩) gw _, (Below.heap_setCell _ _ _ _ ng.1.symm).trans i3, (Below.heap_setCell _ _ _ _ ng.2.symm).trans i4⟩)
      clear i1 i2 i3 i4 ng gw I
      go_wp2
      go_roundg (n - (k + 1))
      case measure => omega
      case rel => exact ⟨k + 1, by go_num, by omega, Nat.le_refl _, I2⟩
    · obtain rfl : k = n := by omega
      have hltz : ¬ (k : Int) < (k : Int) := by omega
      obtain ⟨i1, i2, i3, i4⟩ := I.out
      have ng : bq < g ∧ bb < g := by have := hgq.out; have := hbb.out; omega
      have gw : w.heap.size ≤ g := by have := hgq.out; have := hbc.out; omega
      have hC : CmpW (.pointer (some ⟨bb, 0, none⟩)) (.pointer (some ⟨bq, 0, none⟩)) (evP E) wr g 0 k := fun W d S x y hx hy => by
        have j3 := (S.block bq (lt_of_block i3) (by omega)).trans i3
        have j4 := (S.block bb (lt_of_block i4) (by omega)).trans i4
        exact clP_any (cap := cap) (ad := ad) hE.out (by simp [World.cell?, j4]) (by simp [World.cell?, j3]) (hR.out.kept (Nat.le_trans i2.size S.size) fun k hk => (S.block k (Nat.lt_of_lt_of_le hk i2.size) (by omega)).trans (i2.block k hk)) (lt_of_block j4) (lt_of_block j3) hx hy
      have cs := hid1 (sortst_any (evP_swo E) hC (asc_row i1) (fun i j h1 h2 => by rw [getElem!_pos _ i (by simp; omega), getElem!_pos _ j (by simp; omega)]; simpa using h1) hn k)
      have J := hid1 (And.intro i2 gw)
      clear hC i1 i2 i3 i4 ng gw I
      go_wp2_with (go_at_call 46; refine cs.out.mono ?_; rintro e w' ⟨rfl, dn, H, S2⟩)
      replace H := hid1 H
      replace S2 := hid1 S2
      clear cs
      go_ret
      obtain ⟨i2, gw⟩ := J.out
      exact ⟨_, dn.toList, rfl, IsOrd.of (by simp) (fun i hi => by rw [getElem!_pos _ i (by simpa using hi)]; simp) H.out.1 H.out.2, S2.out.rdz, S2.out.bel i2 gw⟩
set_option maxRecDepth 100000 in
set_option maxHeartbeats 4000000 in
theorem sortO_any {w : World} {ad : Option Addr} {n : Nat} (cap : Nat) {E : List Ev} (hE : n = E.length) (hR : RdEv w ad E) (hn : n < 400000000) :
    Calls Try.prog 34 #[.slice ad n cap, .func (.func 35) #[] #[]] w fun r w' => ∃ a l, r = .returned (.slice a n n) ∧ IsOrd (ltN (evO E)) n l ∧ RdZ w' a (l.map fun (x : Nat) => (x : Int)) ∧ Below w.heap.size w w' := by
  have hmk : ∀ wr, (Instr.makeSlice 25 (.int .i64 (n : Nat)) (.int .i64 (n : Nat))).run Try.prog wr = .ok (.slice (some ⟨wr.heap.size, 0, none⟩) n n) (wr.alloc (.cells (ascA n 0) 3)) := fun wr => by
    rw [← ascA_made]
    exact run_make_row' 25 3 (.int .i64 0) 8 Try.underlying25 Try.info3' rfl .i64 .i64 n (by omega) (by omega) wr
  have hA := new_obj w (.cells #[.slice ad n cap] 24)
  have b1 := alloc_below w (.cells #[.slice ad n cap] 24)
  have z1 : (w.alloc (.cells #[.slice ad n cap] 24)).heap.size = w.heap.size + 1 := by simp
  generalize hw0 : w.alloc (.cells #[.slice ad n cap] 24) = w0 at hA b1 z1
  have hB := new_obj w0 (.cells #[.func (.func 35) #[] #[]] 76)
  have b2 := alloc_below w0 (.cells #[.func (.func 35) #[] #[]] 76)
  replace hA := (b2.block _ (lt_of_block hA)).trans hA
  rw [z1] at hB
  have bel := seq_below b1 b2
  have z2 : (w0.alloc (.cells #[.func (.func 35) #[] #[]] 76)).heap.size = w.heap.size + 2 := by simp [z1]
  replace hw0 := hid1 hw0
  clear b1 b2 z1
  replace hE := hid1 hE
  have hR := hid1 hR
  go_enter Try.func34, Try.ntmps34
  go_upto_region 1 with fail
  rw [hw0.out]
  clear hw0
  generalize World.alloc _ _ = w1 at *
  generalize hbc : w.heap.size = bq at hA hB z2 ⊢
  replace hbc := hid1 hbc
  obtain ⟨bb, hbb⟩ : ∃ ba, bq + 1 = ba := ⟨_, rfl⟩
  rw [hbb] at hB ⊢
  replace hbb := hid1 hbb
  have x1 : w1.cell? ⟨bq, 0, none⟩ = some (.slice ad n cap) := by simp [World.cell?, hA]
  have hg := new_obj w1 (.cells (ascA n 0) 3)
  have b3 := alloc_below w1 (.cells (ascA n 0) 3)
  have x2 : (w1.alloc (.cells (ascA n 0) 3)).cell? ⟨bq, 0, none⟩ = some (.slice ad n cap) := (b3.cell (p := ⟨bq, 0, none⟩) (lt_of_block hA)).trans x1
  replace hA := (b3.block _ (lt_of_block hA)).trans hA
  replace hB := (b3.block _ (lt_of_block hB)).trans hB
  have bG := seq_below bel b3
  clear bel b3 x2
  obtain ⟨g, hgs⟩ : ∃ g, w1.heap.size = g := ⟨_, rfl⟩
  have hgq := hid1 (show bq + 2 = g by rw [← hgs]; exact z2.symm)
  clear z2
  rw [hgs] at hg
  replace hgs := hid1 hgs
  go_upto_region 2 with fail
  rw [hgs.out]
  generalize World.alloc _ _ = w2 at *
  clear x1 hgs
  have hAh := hid1 hA
  have hBh := hid1 hB
  have hgh := hid1 hg
  have bGh := hid1 bG
  clear hA hB hg bG
  go_wp2
  go_loopg [6, 12] n (fun g1 _ vi wr => ∃ (k : Nat), vi = .int .i64 k ∧ k ≤ n ∧ n - k ≤ g1 ∧ Hid (wr.heap[g]? = some (.cells (ascA n k) 3 (0, 0)) ∧ Below w.heap.size w wr ∧ wr.heap[bq]? = some (.cells #[.slice ad n cap] 24 (0, 0)) ∧ wr.heap[bb]? = some (.cells #[.func (.func 35) #[] #[]] 76 (0, 0)) ))
  case atStart => exact ⟨0, by go_num, Nat.zero_le _, by omega, hid1 ⟨hgh.out, bGh.out, hAh.out, hBh.out⟩⟩
  case round =>
    clear hgh bGh hAh hBh
    obtain ⟨k, rfl, hk, hg1, I⟩ := hrel
    by_cases hlt : k < n
    · have hltz : (k : Int) < (n : Int) := by omega
      obtain ⟨i1, i2, i3, i4⟩ := I.out
      have y1 : wr.cell? ⟨g, k, none⟩ = some (.int .i64 0) := by
        simp only [World.cell?, i1]
        show (ascA n k)[k]? = _
        rw [ascA_at, if_pos hlt, if_neg (by omega)]
      have y2 := cells_freeH i1 k
      have ng : g ≠ bq ∧ g ≠ bb := by have := hgq.out; have := hbb.out; omega
      have gw : w.heap.size ≤ g := by have := hgq.out; have := hbc.out; omega
      have I2 := hid1 (show (wr.setCell ⟨g, k, none⟩ (.int .i64 (k : Int))).heap[g]? = some (.cells (ascA n (k + 1)) 3 (0, 0)) ∧ Below w.heap.size w (wr.setCell ⟨g, k, none⟩ (.int .i64 (k : Int))) ∧ (wr.setCell ⟨g, k, none⟩ (.int .i64 (k : Int))).heap[bq]? = some (.cells #[.slice ad n cap] 24 (0, 0)) ∧ (wr.setCell ⟨g, k, none⟩ (.int .i64 (k : Int))).heap[bb]? = some (.cells #[.func (.func 35) #[] #[]] 76 (0, 0)) from
        ⟨by rw [← ascA_set hlt]; exact heap_putH i1 _, i2.setCell (p := ⟨g, k, none⟩) gw _, (Below.heap_setCell _ _ _ _ ng.1.symm).trans i3, (Below.heap_setCell _ _ _ _ ng.2.symm).trans i4⟩)
      clear i1 i2 i3 i4 ng gw I
      go_wp2
      go_roundg (n - (k + 1))
      case measure => omega
      case rel => exact ⟨k + 1, by go_num, by omega, Nat.le_refl _, I2⟩
    · obtain rfl : k = n := by omega
      have hltz : ¬ (k : Int) < (k : Int) := by omega
      obtain ⟨i1, i2, i3, i4⟩ := I.out
      have ng : bq < g ∧ bb < g := by have := hgq.out; have := hbb.out; omega
      have gw : w.heap.size ≤ g := by have := hgq.out; have := hbc.out; omega
      have hC : CmpW (.pointer (some ⟨bb, 0, none⟩)) (.pointer (some ⟨bq, 0, none⟩)) (evO E) wr g 0 k := fun W d S x y hx hy => by
        have j3 := (S.block bq (lt_of_block i3) (by omega)).trans i3
        have j4 := (S.block bb (lt_of_block i4) (by omega)).trans i4
        exact clO_any (cap := cap) (ad := ad) hE.out (by simp [World.cell?, j4]) (by simp [World.cell?, j3]) (hR.out.kept (Nat.le_trans i2.size S.size) fun k hk => (S.block k (Nat.lt_of_lt_of_le hk i2.size) (by omega)).trans (i2.block k hk)) (lt_of_block j4) (lt_of_block j3) hx hy
      have cs := hid1 (sortst_any (evO_swo E) hC (asc_row i1) (fun i j h1 h2 => by rw [getElem!_pos _ i (by simp; omega), getElem!_pos _ j (by simp; omega)]; simpa using h1) hn k)
      have J := hid1 (And.intro i2 gw)
      clear hC i1 i2 i3 i4 ng gw I
      go_wp2_with (go_at_call 46; refine cs.out.mono ?_; rintro e w' ⟨rfl, dn, H, S2⟩)
      replace H := hid1 H
      replace S2 := hid1 S2
      clear cs
      go_ret
      obtain ⟨i2, gw⟩ := J.out
      exact ⟨_, dn.toList, rfl, IsOrd.of (by simp) (fun i hi => by rw [getElem!_pos _ i (by simpa using hi)]; simp) H.out.1 H.out.2, S2.out.rdz, S2.out.bel i2 gw⟩
end Go.Proofs.Ytecppcakgfohbab
