/- Contracts of package arena's own small functions and of what makes its machines. -/
import Derived.Test.YtjbjijkkmlehgaaDoorAMake
import Derived.Test.YtjbjijkkmlehgaaDoorAFree
import Derived.Laws.CopyOwn
namespace Go.Proofs.YtjbjijkkmlehgaaDoor
open Go.RowKit
open Mm (IsMem MS touched Only IsWords)
open Hh (WT wordOf bornN okW Hr)

/-- Whether a slot may be made something of this kind and arity. -/
def mayB (a kind ar : Int) : Bool := (decide (kind = 1) && decide (0 ≤ ar) && decide (ar ≤ a)) || (decide (kind = 2) && decide (ar = 0))
set_option maxHeartbeats 1000000 in
theorem may_any (s a c d g k kind ar : Int) (w : World) :
    Calls Tryd.prog 44 #[.agg (cs s a c d g k), .int .i64 kind, .int .i64 ar] w fun e w' => e = .returned (.bool (mayB a kind ar)) ∧ Below w.heap.size w w' := by
  have bel := alloc_below w (.cells #[.int .i64 s, .int .i64 a, .int .i64 c, .int .i64 d, .int .i64 g, .int .i64 k] 23)
  by_cases h1 : kind = 1
  · subst h1
    by_cases h2 : 0 ≤ ar
    · have e : mayB a 1 ar = decide (ar ≤ a) := by simp [mayB, h2]
      rw [e]
      go_enter Tryd.func44, Tryd.ntmps44
      go_wp2
      go_ret
      exact ⟨rfl, bel⟩
    · have e : mayB a 1 ar = false := by simp [mayB, h2]
      rw [e]
      go_enter Tryd.func44, Tryd.ntmps44
      go_wp2
      go_ret
      exact ⟨rfl, bel⟩
  · have n1 : (kind == 1) = false := by simpa using h1
    by_cases h2 : kind = 2
    · subst h2
      have e : mayB a 2 ar = (ar == 0) := by by_cases h : ar = 0 <;> simp [mayB, h]
      rw [e]
      go_enter Tryd.func44, Tryd.ntmps44
      go_wp2
      go_ret
      exact ⟨rfl, bel⟩
    · have n2 : (kind == 2) = false := by simpa using h2
      have e : mayB a kind ar = false := by simp [mayB, h1, h2]
      rw [e]
      go_enter Tryd.func44, Tryd.ntmps44
      go_wp2
      go_ret
      exact ⟨rfl, bel⟩

set_option maxHeartbeats 2000000 in
theorem bodySize_yes {K : Cf} (hK : K.Ok) (w : World) :
    Calls Tryd.prog 45 #[.agg K.cs] w fun e w' => e = .returned (.int .i64 (K.B : Nat)) ∧ Below w.heap.size w w' := by
  have h1 := hK.s1
  have h8 := hK.b8
  have c1 : ∀ n : Nat, n < K.B → ∀ w, Calls Tryd.prog 59 #[.agg K.cs, .int .i64 0, .int .i64 (n : Nat)] w fun e w' => e = .returned (.int .i64 (K.bd 0 n : Nat)) ∧ Below w.heap.size w w' := fun n hn => body_at hK (s := 0) (by omega) hn rfl rfl
  have c2 : ∀ w, Calls Tryd.prog 59 #[.agg K.cs, .int .i64 0, .int .i64 (K.B : Nat)] w fun e w' => e = .returned (.int .i64 (-1)) ∧ Below w.heap.size w w' := body_no2 (s := (K.S : Int)) 0 (K.B : Nat) (by rw [hK.r, Bool.true_and]; exact be_iff.2 (by omega)) (by
    have h := hK.b
    cases hb : be (K.B : Nat) (bsI K.a) with
    | false => rfl
    | true => have := be_iff.1 hb; omega)
  have bel := alloc_below w (.cells #[.int .i64 (K.S : Nat), .int .i64 K.a, .int .i64 (K.C : Nat), .int .i64 (K.D : Nat), .int .i64 K.g, .int .i64 K.k] 23)
  have hh := cfg_new w K.S K.a K.C K.D K.g K.k
  generalize hBe : K.B = B at *
  clear hK hBe h1
  go_enter Tryd.func45, Tryd.ntmps45
  go_upto_region 1 with fail
  generalize w.alloc (.cells #[.int .i64 (K.S : Nat), .int .i64 K.a, .int .i64 (K.C : Nat), .int .i64 (K.D : Nat), .int .i64 K.g, .int .i64 K.k] 23) = w0 at *
  go_wp2
  go_loopw [3] (fun i wr => ∃ n : Nat, n ≤ B ∧ i = .int .i64 n ∧ IsCfg wr w.heap.size K.S K.a K.C K.D K.g K.k ∧ Below w.heap.size w wr) (fun i _ => B - (intOf i).toNat)
  case atStart => exact ⟨0, Nat.zero_le _, rfl, hh, bel⟩
  case round =>
    clear hh bel
    obtain ⟨n, hn, rfl, hh, bel⟩ := hrel
    obtain ⟨l0, l1, l2, l3, l4, l5⟩ := hh.cells
    by_cases hb : n < B
    · have d1 := c1 n hb
      clear c1 c2
      have hz : (0 : Int) ≤ (K.bd 0 n : Nat) := by omega
      generalize ((K.bd 0 n : Nat) : Int) = z at *
      go_wp2_with (go_at_call 59; refine (d1 _).mono ?_; rintro e w1 ⟨rfl, b⟩; replace bel := seq_below bel b; replace hh := hh.below b)
      go_roundw
      case rel => exact ⟨n + 1, by omega, by go_num, hh, bel⟩
      case measure => simp [intOf]; omega
    · obtain rfl : n = B := by omega
      clear c1
      go_wp2_with (go_at_call 59; refine (c2 _).mono ?_; rintro e w1 ⟨rfl, b⟩; replace bel := seq_below bel b)
      go_ret
      exact ⟨rfl, bel⟩

/-- Words that a slice has, if it has any. -/
def SrW (w : World) (ad : Option Addr) (Y : List Nat) : Prop := ∀ i, i < Y.length → ∃ b off, ad = some ⟨b, off, none⟩ ∧ b < w.heap.size ∧ w.cell? ⟨b, off + i, none⟩ = some (.int .u64 (Y.getD i 0 : Nat))
theorem SrW.below {w w' : World} {ad : Option Addr} {Y : List Nat} (h : SrW w ad Y) (k : Below w.heap.size w w') : SrW w' ad Y := fun i hi => by
  obtain ⟨b, off, e, hb, hc⟩ := h i hi
  exact ⟨b, off, e, Nat.lt_of_lt_of_le hb k.size, (k.cell (p := ⟨b, off + i, none⟩) hb).trans hc⟩
/-- A body: as many of these words as it has, and 0 where they are fewer. -/
def fillW (B : Nat) (Y : List Nat) : List Nat := (Y ++ List.replicate B 0).take B
theorem fillW_len (B : Nat) (Y : List Nat) : (fillW B Y).length = B := by simp [fillW]
theorem splice_fill (B : Nat) (Y : List Nat) : (splice (List.replicate B (Value.int .u64 0)) 0 (Mm.wordsOf (Y.take B)).toList).toArray = Mm.wordsOf (fillW B Y) := by
  unfold splice fillW Mm.wordsOf
  apply Array.ext'
  have e : B - min B Y.length = min (B - Y.length) B := by omega
  simp [List.take_append, List.take_replicate, List.drop_replicate, e]

set_option maxHeartbeats 2000000 in
theorem filled_any {K : Cf} (hK : K.Ok) {w : World} {ad : Option Addr} {n cap : Nat} {Y : List Nat} (hY : SrW w ad Y) (hn : Y.length = n) :
    Calls Tryd.prog 46 #[.agg K.cs, .slice ad n cap] w fun e w' => ∃ R, e = .returned (.slice (some ⟨R, 0, none⟩) K.B K.B) ∧ IsWords w' R (fillW K.B Y) ∧ w.heap.size ≤ R ∧ Below w.heap.size w w' := by
  obtain ⟨i0, hi, hz0, hz1, hz2⟩ := info_parts Mm.Tryd.info35
  have hsz : (Tryd.prog.info? 35).map (·.size) = some 1 := by rw [hi]; simp [hz1]
  have c1 := bodySize_yes hK
  have h8 := hK.b8
  have bel := alloc_below w (.cells #[.int .i64 (K.S : Nat), .int .i64 K.a, .int .i64 (K.C : Nat), .int .i64 (K.D : Nat), .int .i64 K.g, .int .i64 K.k] 23)
  have hh := cfg_new w K.S K.a K.C K.D K.g K.k
  replace hY := hY.below bel
  have hsp := splice_fill K.B Y
  have HY : Hid (∀ (j : Nat) v, (Mm.wordsOf (Y.take K.B))[j]? = some v → j < Y.length ∧ v = .int .u64 (Y.getD j 0 : Nat)) := fun j v hj => by
    have hlt : j < (Mm.wordsOf (Y.take K.B)).size := (Array.getElem?_eq_some_iff.1 hj).1
    simp only [Mm.wordsOf, List.size_toArray, List.length_map, List.length_take] at hlt
    refine ⟨by omega, ?_⟩
    simp only [Mm.wordsOf, List.getElem?_toArray, List.getElem?_map] at hj
    rw [List.getElem?_take, if_pos (by omega), List.getElem?_eq_getElem (by omega)] at hj
    simp at hj
    rw [← hj]
    simp [show j < Y.length by omega]
  have hcl : (Mm.wordsOf (Y.take K.B)).toList.length = Nat.min n K.B := by simp [Mm.wordsOf, hn, Nat.min_comm]
  generalize hBe : K.B = B at *
  clear hK hBe
  go_enter Tryd.func46, Tryd.ntmps46
  go_upto_region 1 with fail
  generalize w.alloc (.cells #[.int .i64 (K.S : Nat), .int .i64 K.a, .int .i64 (K.C : Nat), .int .i64 (K.D : Nat), .int .i64 K.g, .int .i64 K.k] 23) = w0 at *
  obtain ⟨l0, l1, l2, l3, l4, l5⟩ := hh.cells
  have HYs : Hid (SrW w0 ad Y) := hY
  clear hY
  go_wp2_with (first
    | (go_at_call 45; refine (c1 _).mono ?_; rintro e w1 ⟨rfl, b⟩; replace bel := seq_below bel b; replace HYs : Hid (SrW w1 ad Y) := SrW.below HYs.out b)
    | (at_make; refine wpList_make_full _ rfl _ _ 44 rfl w1.heap.size 35 i0 (.int .u64 0) 1 Tryd.underlying44 hi hz0 hz1 .i64 .i64 B B B rfl rfl rfl rfl ?c1 ?c2 (Nat.le_refl _) ?_))
  case c1 => rw [hz2]; omega
  case c2 => unfold maxLen; omega
  intro w2 hown hgrow
  have hr := Mm.made_words hown rfl
  have hb := Mm.of_grown hgrow
  have hs1 := bel.size
  have HR : Hid (IsWords w2 w1.heap.size (List.replicate B 0)) := hr
  have HB : Hid (Below w1.heap.size w1 w2) := hb
  have HB0 : Hid (Below w.heap.size w w2) := seq_below bel hb
  have HY2 : Hid (SrW w2 ad Y) := SrW.below HYs.out hb
  clear hown hgrow hr hb bel HYs l0 l1 l2 l3 l4 l5 hh
  generalize w1.heap.size = R at *
  go_wp2_with ((refine wpList_copy_splice rfl (.tmp 9) (.tmp 10) 44 44 rfl 35 Tryd.underlying44 hsz _ _ B B n cap rfl rfl R 0 (List.replicate B (Value.int .u64 0)) 35 ?d1 (Mm.wordsOf (Y.take B)).toList ?d2 ?d3 ?d4 ?d5 w.heap.size w HB0.out hs1 ?_))
  case d1 => exact HR.out.trans (by simp [Mm.wordsOf])
  case d2 => exact hcl
  case d3 =>
    intro hpos
    obtain ⟨b, off, rfl, hb, _⟩ := HY2.out 0 (by have : Nat.min n B ≤ n := Nat.min_le_left n B; omega)
    refine ⟨_, rfl, fun j v hj => ?_⟩
    obtain ⟨hj1, rfl⟩ := HY.out j v hj
    obtain ⟨b', off', e, _, hc⟩ := HY2.out j hj1
    simp only [Option.some.injEq, Addr.mk.injEq] at e
    obtain ⟨rfl, rfl, -⟩ := e
    rw [Addr.add_lit]
    exact hc
  case d4 => rw [hcl, List.length_replicate, Nat.zero_add]; exact Nat.min_le_right n B
  case d5 => exact Mm.words_one _
  · intro w3 hrow hb3
    have HR2 : Hid (IsWords w3 R (fillW B Y)) := hrow.out
    clear hrow HR hsp HY HY2
    go_wp2
    go_ret
    exact ⟨_, rfl, HR2.out, hs1, hb3⟩

theorem getN_fill {B : Nat} {Y : List Nat} (h : ∀ i, Y.getD i 0 < 18446744073709551616) (i : Nat) : (fillW B Y).getD i 0 < 18446744073709551616 := by
  unfold fillW
  rw [List.getD_eq_getElem?_getD, List.getElem?_take]
  split
  · rw [List.getElem?_append]
    split
    · have := h i
      rwa [List.getD_eq_getElem?_getD] at this
    · rw [List.getElem?_replicate]
      split <;> simp
  · simp

/-- What of a made block is told, without its cells. -/
structure NewBlk (w w' : World) (P : Nat) (c : Array Value) (t : TypeId) : Prop where
  blk : w'.heap[P]? = some (.cells c t (0, 0))
  new : w.heap.size ≤ P
  bel : Below w.heap.size w w'

set_option maxHeartbeats 1000000 in
theorem newFree_no {s a c d g k : Int} (i : Int) (hr : (rightB s a c d g k && be i s) = false) (w : World) :
    Calls Tryd.prog 21 #[.agg (cs s a c d g k), .int .i64 i] w fun e w' => e = .returned (.pointer none) ∧ Below w.heap.size w w' := by
  have c1 := header_no i hr
  have bel := alloc_below w (.cells #[.int .i64 s, .int .i64 a, .int .i64 c, .int .i64 d, .int .i64 g, .int .i64 k] 23)
  have hh := cfg_new w s a c d g k
  clear hr
  go_enter Tryd.func21, Tryd.ntmps21
  go_wp2_with (go_at_call 39; refine (c1 _).mono ?_; rintro e w1 ⟨rfl, b⟩; replace bel := seq_below bel b)
  go_ret
  exact ⟨rfl, bel⟩

set_option maxHeartbeats 4000000 in
theorem newFree_yes {K : Cf} (hK : K.Ok) {s : Nat} (hs : s < K.S) (w : World) :
    Calls Tryd.prog 21 #[.agg K.cs, .int .i64 (s : Nat)] w fun e w' => ∃ P c, e = .returned (.pointer (some ⟨P, 0, none⟩)) ∧ NewBlk w w' P c 72 ∧ FrAt c K ⟨false, false, ⟨s, 0, 0⟩, 0, 0⟩ := by
  have c1 := fun w => header_at hK hs rfl w
  have c2 := newPush_yes hK s hs
  have hz : (0 : Int) ≤ (K.hd s : Nat) := by omega
  have Hfr : Hid (FrAt #[.bool false, .bool false, .int .i64 (K.hd s : Nat), .int .i64 K.g, .int .i64 (K.S : Nat), .int .i64 K.a, .int .i64 (K.C : Nat), .int .i64 (K.D : Nat), .int .i64 K.g, .int .i64 K.k, .int .i64 (s : Nat), .int .i64 0, .int .u64 0, .int .i64 0, .int .u64 0] K ⟨false, false, ⟨s, 0, 0⟩, 0, 0⟩) := ⟨rfl, rfl, rfl, rfl, ⟨rfl, rfl, rfl, rfl, rfl, rfl, rfl, rfl, rfl⟩, rfl, rfl⟩
  generalize ((K.hd s : Nat) : Int) = L at *
  have bel := alloc_below w (.cells #[.int .i64 (K.S : Nat), .int .i64 K.a, .int .i64 (K.C : Nat), .int .i64 (K.D : Nat), .int .i64 K.g, .int .i64 K.k] 23)
  have hh := cfg_new w K.S K.a K.C K.D K.g K.k
  unfold Cf.cs at *
  go_enter Tryd.func21, Tryd.ntmps21
  go_upto_region 1 with fail
  generalize w.alloc (.cells #[.int .i64 (K.S : Nat), .int .i64 K.a, .int .i64 (K.C : Nat), .int .i64 (K.D : Nat), .int .i64 K.g, .int .i64 K.k] 23) = w0 at *
  obtain ⟨l0, l1, l2, l3, l4, l5⟩ := hh.cells
  go_upto_region 4 with (go_at_call 39; refine (c1 _).mono ?_; rintro e w1 ⟨rfl, b⟩; replace bel := seq_below bel b; replace hh := hh.below b; clear l0 l1 l2 l3 l4 l5)
  clear c1 b
  replace hh := hh.below (Below.refl w1.heap.size w1).drew
  replace bel := bel.drew
  obtain ⟨l0, l1, l2, l3, l4, l5⟩ := hh.cells
  go_region_with (first
    | (go_at_call 53; with_reducible refine (c2 _).mono ?_; rintro e w2 ⟨Q, rfl, hq, hQ, b⟩; replace bel := seq_below bel b; replace hh := hh.below b; clear l0 l1 l2 l3 l4 l5; obtain ⟨l0, l1, l2, l3, l4, l5⟩ := hh.cells; obtain ⟨m0, m1, m2, m3, m4, m5, m6, m7, m8⟩ := hq.cells))
  all_goals
    go_wp2
    go_ret
    exact ⟨_, _, rfl, ⟨new_obj _ _, bel.size, bel.alloc bel.size _⟩, Hfr.out⟩
end Go.Proofs.YtjbjijkkmlehgaaDoor
