/- The contract of head.Unpack. -/
import Derived.Test.YtcioomopgdhlmaaGreatDoorHB
namespace Go.Proofs.YtcioomopgdhlmaaGreatDoor.Hh
open Go.RowKit

/-- A row of seven numbers in a block. -/
def IsRow (w : World) (b : Nat) (X : List Int) : Prop := w.heap[b]? = some (.cells (X.map fun z => Value.int .i64 z).toArray 100 (0, 0))

/-- The numbers of a word, those from k on still 0. -/
def fill (W k : Nat) : List Int := (List.range 7).map fun i => if i < k then ((getN W (off i) (wd i) : Nat) : Int) else 0

theorem IsRow.lt {w : World} {b : Nat} {X : List Int} (h : IsRow w b X) : b < w.heap.size := lt_of_block h
theorem IsRow.cell {w : World} {b : Nat} {X : List Int} (h : IsRow w b X) (i : Nat) (z : Int) (hz : X[i]? = some z) : w.cell? ⟨b, i, none⟩ = some (.int .i64 z) := by
  unfold World.cell?
  simp only [show w.heap[b]? = _ from h]
  simp [hz]
theorem IsRow.free {w : World} {b : Nat} {X : List Int} (h : IsRow w b X) (i : Nat) : w.frozen? ⟨b, i, none⟩ = false := by simp [World.frozen?, show w.heap[b]? = _ from h]

theorem heap_setCell_at {w : World} {b o : Nat} {c : Array Value} {e : TypeId} {fz : Nat × Nat} (h : w.heap[b]? = some (.cells c e fz)) (v : Value) :
    (w.setCell ⟨b, o, none⟩ v).heap[b]? = some (.cells (c.setIfInBounds o v) e fz) := by
  have hlt := lt_of_block h
  have h' : w.heap[b] = .cells c e fz := by simpa [Array.getElem?_eq_getElem hlt] using h
  show (w.heap.modify b _)[b]? = _
  rw [Array.getElem?_eq_getElem (by simpa using hlt), Array.getElem_modify_self, h']
  rfl

theorem IsRow.set {w : World} {b : Nat} {X : List Int} (h : IsRow w b X) (i : Nat) (z : Int) : IsRow (w.setCell ⟨b, i, none⟩ (.int .i64 z)) b (X.set i z) := by
  unfold IsRow
  rw [heap_setCell_at (show w.heap[b]? = _ from h)]
  congr 2
  simp [List.map_set]

theorem fill_set (W k : Nat) (h : k < 7) : (fill W k).set k ((getN W (off k) (wd k) : Nat) : Int) = fill W (k + 1) := by
  have h7 : k = 0 ∨ k = 1 ∨ k = 2 ∨ k = 3 ∨ k = 4 ∨ k = 5 ∨ k = 6 := by omega
  rcases h7 with rfl | rfl | rfl | rfl | rfl | rfl | rfl <;> rfl

theorem wd_off (k : Nat) (h : k < 7) : off (k + 1) = off k + wd k ∧ 1 ≤ wd k ∧ wd k ≤ 32 ∧ off k + wd k ≤ 64 := by
  have h7 : k = 0 ∨ k = 1 ∨ k = 2 ∨ k = 3 ∨ k = 4 ∨ k = 5 ∨ k = 6 := by omega
  rcases h7 with rfl | rfl | rfl | rfl | rfl | rfl | rfl <;> decide

theorem ix_any (k : Nat) (h : k < 7) (w : World) : (Instr.index 100 (.agg #[.int .i64 3, .int .i64 1, .int .i64 1, .int .i64 4, .int .i64 7, .int .i64 32, .int .i64 16]) (.int .i64 (k : Nat))).run Tryz.prog w = .ok (.int .i64 ((wd k : Nat) : Int)) w := by
  have h7 : k = 0 ∨ k = 1 ∨ k = 2 ∨ k = 3 ∨ k = 4 ∨ k = 5 ∨ k = 6 := by omega
  rcases h7 with rfl | rfl | rfl | rfl | rfl | rfl | rfl
  · exact ix0 ..
  · exact ix1 ..
  · exact ix2 ..
  · exact ix3 ..
  · exact ix4 ..
  · exact ix5 ..
  · exact ix6 ..

theorem getN_32 (W a n : Nat) (h : n ≤ 32) : getN W a n < 4294967296 :=
  Nat.lt_of_lt_of_le (Nat.mod_lt _ (Nat.two_pow_pos n)) (Nat.pow_le_pow_right (by omega) h)

theorem IsHd.free {w : World} {b : Nat} {k m : Int} {g : Bool} {a n s : Int} (h : IsHd w b k m g a n s) (i : Nat) : w.frozen? ⟨b, i, none⟩ = false := by simp [World.frozen?, show w.heap[b]? = _ from h]
theorem IsHd.below {w w' : World} {b : Nat} {k m : Int} {g : Bool} {a n s : Int} (h : IsHd w b k m g a n s) (hb : Below w.heap.size w w') : IsHd w' b k m g a n s := by
  unfold IsHd
  rw [hb.block b (lt_of_block h)]
  exact h

theorem fill0 (W : Nat) : fill W 0 = [0, 0, 0, 0, 0, 0, 0] := rfl
theorem fill7 (W : Nat) : fill W 7 = [((getN W 0 3 : Nat) : Int), ((getN W 3 1 : Nat) : Int), ((getN W 4 1 : Nat) : Int), ((getN W 5 4 : Nat) : Int), ((getN W 9 7 : Nat) : Int), ((getN W 16 32 : Nat) : Int), ((getN W 48 16 : Nat) : Int)] := rfl
theorem fill_at (W k : Nat) (h : k < 7) : (fill W k)[k]? = some 0 := by
  have h7 : k = 0 ∨ k = 1 ∨ k = 2 ∨ k = 3 ∨ k = 4 ∨ k = 5 ∨ k = 6 := by omega
  rcases h7 with rfl | rfl | rfl | rfl | rfl | rfl | rfl <;> rfl

theorem row_step {wr : World} {b W k : Nat} (m : Nat) (h : IsRow wr b (fill W k)) (hk : k < 7) (v : Nat) (hv : getN W (off k) (wd k) = v) :
    IsRow ((wr.drewN m).setCell ⟨b, k, none⟩ (.int .i64 (v : Nat))) b (fill W (k + 1)) := by
  subst hv
  rw [← fill_set W k hk]
  exact IsRow.set (show IsRow (wr.drewN m) b _ from h) k _

theorem hd_step {wr : World} {b r k : Nat} (m : Nat) {k0 m0 : Int} {g : Bool} {a n s : Int} (h : IsHd wr r k0 m0 g a n s) (hr : r ≠ b) (v : Value) : IsHd ((wr.drewN m).setCell ⟨b, k, none⟩ v) r k0 m0 g a n s := by
  unfold IsHd
  rw [Below.heap_setCell _ _ _ _ hr]
  exact h

theorem below_drewN {B : Nat} {w w' : World} (h : Below B w w') (m : Nat) : Below B w (w'.drewN m) := ⟨h.os, h.tape, h.output, h.size, h.block⟩

theorem hd_stored {w : World} {r : Nat} {k0 m0 : Int} {g0 : Bool} {a0 n0 s0 : Int} (h : IsHd w r k0 m0 g0 a0 n0 s0) (k m : Int) (g : Bool) (a n s : Int) :
    IsHd ((((((w.setCell ⟨r, 0, none⟩ (.int .i64 k)).setCell ⟨r, 1, none⟩ (.int .i64 m)).setCell ⟨r, 2, none⟩ (.bool g)).setCell ⟨r, 3, none⟩ (.int .i64 a)).setCell ⟨r, 4, none⟩ (.int .i64 n)).setCell ⟨r, 5, none⟩ (.int .i64 s)) r k m g a n s :=
  heap_setCell_at (heap_setCell_at (heap_setCell_at (heap_setCell_at (heap_setCell_at (heap_setCell_at h _) _) _) _) _) _

theorem below_stored {B : Nat} {w0 w : World} {r : Nat} (h : Below B w0 w) (hr : B ≤ r) (v0 v1 v2 v3 v4 v5 : Value) :
    Below B w0 ((((((w.setCell ⟨r, 0, none⟩ v0).setCell ⟨r, 1, none⟩ v1).setCell ⟨r, 2, none⟩ v2).setCell ⟨r, 3, none⟩ v3).setCell ⟨r, 4, none⟩ v4).setCell ⟨r, 5, none⟩ v5) :=
  (((((h.setCell hr v0).setCell hr v1).setCell hr v2).setCell hr v3).setCell hr v4).setCell hr v5

/-- Is a word some header's? -/
def okW (W : Nat) : Bool := kindOk ((getN W 0 3 : Nat) : Int) && decide (getN W 9 7 = 0)
/-- What Unpack tells. -/
def unpV (W : Nat) : Value := if okW W = true
  then .tuple #[.agg #[.int .i64 ((getN W 0 3 : Nat) : Int), .int .i64 ((getN W 3 1 : Nat) : Int), .bool (((getN W 4 1 : Nat) : Int) == 1), .int .i64 ((getN W 5 4 : Nat) : Int), .int .i64 ((getN W 16 32 : Nat) : Int), .int .i64 ((getN W 48 16 : Nat) : Int)], .bool true]
  else .tuple #[.agg #[.int .i64 0, .int .i64 0, .bool false, .int .i64 0, .int .i64 0, .int .i64 0], .bool false]

set_option maxHeartbeats 4000000 in
theorem hunpack_any (W : Nat) (hW : W < 18446744073709551616) (w : World) (hw : WT w) :
    Calls Tryz.prog 50 #[.int .u64 (W : Nat)] w fun e w' => e = .returned (unpV W) ∧ Below w.heap.size w w' := by
  have hu : Hid (unpV W = if okW W = true then _ else _) := rfl
  unfold okW at hu
  generalize unpV W = U at *
  go_enter Tryz.func50, Tryz.ntmps50
  go_upto_region 3 with fail
  have hb1 : Below w.heap.size w (w.alloc (Obj.cells #[Value.int IntKind.i64 0, Value.int IntKind.i64 0, Value.bool false, Value.int IntKind.i64 0, Value.int IntKind.i64 0, Value.int IntKind.i64 0] 57)) := (Below.refl w.heap.size w).alloc (Nat.le_refl _) _
  have hh1 : IsHd (w.alloc (Obj.cells #[Value.int IntKind.i64 0, Value.int IntKind.i64 0, Value.bool false, Value.int IntKind.i64 0, Value.int IntKind.i64 0, Value.int IntKind.i64 0] 57)) w.heap.size 0 0 false 0 0 0 := (MapKept.heap_alloc w _).1
  have hs1 : (w.alloc (Obj.cells #[Value.int IntKind.i64 0, Value.int IntKind.i64 0, Value.bool false, Value.int IntKind.i64 0, Value.int IntKind.i64 0, Value.int IntKind.i64 0] 57)).heap.size = w.heap.size + 1 := Array.size_push ..
  generalize w.alloc (Obj.cells #[Value.int IntKind.i64 0, Value.int IntKind.i64 0, Value.bool false, Value.int IntKind.i64 0, Value.int IntKind.i64 0, Value.int IntKind.i64 0] 57) = w0 at hb1 hh1 hs1 ⊢
  rw [← hs1]
  have hb2 : Below w0.heap.size w0 (w0.alloc (Obj.cells #[Value.int IntKind.i64 0, Value.int IntKind.i64 0, Value.int IntKind.i64 0, Value.int IntKind.i64 0, Value.int IntKind.i64 0, Value.int IntKind.i64 0, Value.int IntKind.i64 0] 100)) := (Below.refl _ _).alloc (Nat.le_refl _) _
  have hr2 : IsRow (w0.alloc (Obj.cells #[Value.int IntKind.i64 0, Value.int IntKind.i64 0, Value.int IntKind.i64 0, Value.int IntKind.i64 0, Value.int IntKind.i64 0, Value.int IntKind.i64 0, Value.int IntKind.i64 0] 100)) w0.heap.size (fill W 0) := (MapKept.heap_alloc w0 _).1
  generalize w0.alloc (Obj.cells #[Value.int IntKind.i64 0, Value.int IntKind.i64 0, Value.int IntKind.i64 0, Value.int IntKind.i64 0, Value.int IntKind.i64 0, Value.int IntKind.i64 0, Value.int IntKind.i64 0] 100) = w1 at hb2 hr2 ⊢
  have hh2 := hh1.below hb2
  have hb := seq_below hb1 hb2
  have hwt := hw.below hb
  have hne : w.heap.size < w0.heap.size := by omega
  have x0 := hwt 0 (by omega)
  have x1 := hwt 1 (by omega)
  have x2 := hwt 2 (by omega)
  have x3 := hwt 3 (by omega)
  have x4 := hwt 4 (by omega)
  have x5 := hwt 5 (by omega)
  have x6 := hwt 6 (by omega)
  simp only [wd, List.getD_cons_zero, List.getD_cons_succ] at x0 x1 x2 x3 x4 x5 x6
  have HB : Hid (Below w.heap.size w w1) := hb
  have HH : Hid (IsHd w1 w.heap.size 0 0 false 0 0 0) := hh2
  have HR : Hid (IsRow w1 w0.heap.size (fill W 0)) := hr2
  generalize w0.heap.size = B at *
  clear hb1 hh1 hs1 hb2 hr2 hh2 hb hwt hw
  go_wp2
  clear x0 x1 x2 x3 x4 x5 x6
  go_loopw [5, 9] (fun u i wr => ∃ k : Nat, k ≤ 7 ∧ i = .int .i64 k ∧ u = .int .i64 ((off k : Nat) : Int) ∧ Hid (IsRow wr B (fill W k)) ∧ Hid (IsHd wr w.heap.size 0 0 false 0 0 0) ∧ Hid (Below w.heap.size w wr)) (fun _ i _ => 7 - (intOf i).toNat)
  case atStart => exact ⟨0, Nat.zero_le _, rfl, rfl, HR, HH, HB⟩
  case round =>
    obtain ⟨k, hk, rfl, rfl, R, H, BL⟩ := hrel
    by_cases hk7 : k < 7
    · obtain ⟨ho, h1, h2, h3⟩ := wd_off k hk7
      have hx := ix_any k hk7
      have HO : Hid (off (k + 1) = off k + wd k) := ho
      obtain ⟨v, hv⟩ : ∃ v, getN W (off k) (wd k) = v := ⟨_, rfl⟩
      have hv2 : v < 4294967296 := by rw [← hv]; exact getN_32 W _ _ h2
      have cg := fun w' => get_yes W (off k) (wd k) hW h1 h3 w'
      rw [hv] at cg
      have HS : Hid (∀ m, IsRow ((wr.drewN m).setCell ⟨B, k, none⟩ (.int .i64 (v : Nat))) B (fill W (k + 1))) := fun m => row_step m R.out hk7 v hv
      have cc := R.out.cell k 0 (fill_at W k hk7)
      have cf := R.out.free k
      clear ho hv
      generalize off k = o at *
      generalize wd k = n at *
      go_wp2_with (first | (go_at_call 74; refine (cg _).mono ?_; rintro e w' ⟨rfl, mq, rfl⟩))
      go_roundw
      case rel => exact ⟨k + 1, by omega, by go_num, by rw [HO.out]; go_num, HS.out mq, hd_step mq H.out (by omega) _, (below_drewN BL.out mq).setCell (by show w.heap.size ≤ B; omega) _⟩
      case measure => simp [intOf]; omega
    · have hk2 : k = 7 := by omega
      subst hk2
      have R7 := R.out
      rw [fill7] at R7
      have c0 := R7.cell 0 _ rfl
      have c1 := R7.cell 1 _ rfl
      have c2 := R7.cell 2 _ rfl
      have c3 := R7.cell 3 _ rfl
      have c4 := R7.cell 4 _ rfl
      have c5 := R7.cell 5 _ rfl
      have c6 := R7.cell 6 _ rfl
      obtain ⟨d0, d1, d2, d3, d4, d5⟩ := H.out.cells
      have df : ∀ i, wr.frozen? ⟨w.heap.size, i, none⟩ = false := fun i => H.out.free i
      clear R7
      generalize getN W 0 3 = v0 at *
      generalize getN W 3 1 = v1 at *
      generalize getN W 4 1 = v2 at *
      generalize getN W 5 4 = v3 at *
      generalize getN W 9 7 = v4 at *
      generalize getN W 16 32 = v5 at *
      generalize getN W 48 16 = v6 at *
      have ck := isKind_any (v0 : Int)
      have hu' := hu.out
      clear hu
      by_cases hk : kindOk v0 = true
      · rw [hk] at ck
        by_cases h4 : v4 = 0
        · subst h4
          rw [if_pos (by rw [hk]; rfl)] at hu'
          have HU : Hid (U = _) := hu'
          clear hu'
          go_wp2_with (first | (go_at_call 75; refine (ck _).mono ?_; rintro e w' ⟨rfl, rfl⟩))
          have hh9 := hd_stored H.out (v0 : Int) (v1 : Int) ((v2 : Int) == 1) (v3 : Int) (v5 : Int) (v6 : Int)
          have hb9 := below_stored (r := w.heap.size) BL.out (Nat.le_refl _) (.int .i64 v0) (.int .i64 v1) (.bool ((v2 : Int) == 1)) (.int .i64 v3) (.int .i64 v5) (.int .i64 v6)
          generalize ((((((wr.setCell ⟨w.heap.size, 0, none⟩ (.int .i64 v0)).setCell ⟨w.heap.size, 1, none⟩ (.int .i64 v1)).setCell ⟨w.heap.size, 2, none⟩ (.bool ((v2 : Int) == 1))).setCell ⟨w.heap.size, 3, none⟩ (.int .i64 v3)).setCell ⟨w.heap.size, 4, none⟩ (.int .i64 v5)).setCell ⟨w.heap.size, 5, none⟩ (.int .i64 v6)) = w9 at hh9 hb9 ⊢
          obtain ⟨q0, q1, q2, q3, q4, q5⟩ := hh9.cells
          refine bodyPost_ret (v := .tuple #[.agg #[.int .i64 v0, .int .i64 v1, .bool ((v2 : Int) == 1), .int .i64 v3, .int .i64 v5, .int .i64 v6], .bool true]) (by simp [results, Tryz.results50, go_sem, q0, q1, q2, q3, q4, q5]) rfl ?_
          exact ⟨by rw [HU.out], hb9⟩
        · rw [if_neg (by simp [h4])] at hu'
          have HU : Hid (U = _) := hu'
          clear hu'
          have h4' : ¬ (v4 : Int) = 0 := by omega
          go_wp2_with (first | (go_at_call 75; refine (ck _).mono ?_; rintro e w' ⟨rfl, rfl⟩))
          have hh9 := hd_stored H.out 0 0 false 0 0 0
          have hb9 := below_stored (r := w.heap.size) BL.out (Nat.le_refl _) (.int .i64 0) (.int .i64 0) (.bool false) (.int .i64 0) (.int .i64 0) (.int .i64 0)
          generalize ((((((wr.setCell ⟨w.heap.size, 0, none⟩ (.int .i64 0)).setCell ⟨w.heap.size, 1, none⟩ (.int .i64 0)).setCell ⟨w.heap.size, 2, none⟩ (.bool false)).setCell ⟨w.heap.size, 3, none⟩ (.int .i64 0)).setCell ⟨w.heap.size, 4, none⟩ (.int .i64 0)).setCell ⟨w.heap.size, 5, none⟩ (.int .i64 0)) = w9 at hh9 hb9 ⊢
          obtain ⟨q0, q1, q2, q3, q4, q5⟩ := hh9.cells
          refine bodyPost_ret (v := .tuple #[.agg #[.int .i64 0, .int .i64 0, .bool false, .int .i64 0, .int .i64 0, .int .i64 0], .bool false]) (by simp [results, Tryz.results50, go_sem, q0, q1, q2, q3, q4, q5]) rfl ?_
          exact ⟨by rw [HU.out], hb9⟩
      · have hk' : kindOk v0 = false := by simpa using hk
        rw [hk'] at ck
        rw [if_neg (by simp [hk'])] at hu'
        have HU : Hid (U = _) := hu'
        clear hu'
        go_wp2_with (first | (go_at_call 75; refine (ck _).mono ?_; rintro e w' ⟨rfl, rfl⟩))
        have hh9 := hd_stored H.out 0 0 false 0 0 0
        have hb9 := below_stored (r := w.heap.size) BL.out (Nat.le_refl _) (.int .i64 0) (.int .i64 0) (.bool false) (.int .i64 0) (.int .i64 0) (.int .i64 0)
        generalize ((((((wr.setCell ⟨w.heap.size, 0, none⟩ (.int .i64 0)).setCell ⟨w.heap.size, 1, none⟩ (.int .i64 0)).setCell ⟨w.heap.size, 2, none⟩ (.bool false)).setCell ⟨w.heap.size, 3, none⟩ (.int .i64 0)).setCell ⟨w.heap.size, 4, none⟩ (.int .i64 0)).setCell ⟨w.heap.size, 5, none⟩ (.int .i64 0)) = w9 at hh9 hb9 ⊢
        obtain ⟨q0, q1, q2, q3, q4, q5⟩ := hh9.cells
        refine bodyPost_ret (v := .tuple #[.agg #[.int .i64 0, .int .i64 0, .bool false, .int .i64 0, .int .i64 0, .int .i64 0], .bool false]) (by simp [results, Tryz.results50, go_sem, q0, q1, q2, q3, q4, q5]) rfl ?_
        exact ⟨by rw [HU.out], hb9⟩
end Go.Proofs.YtcioomopgdhlmaaGreatDoor.Hh
