/- A record that several stamp, while the clock is turned: no world in sight. -/
import Derived.Test.YtnegdabcjnhpdaaGreatDoorGD
import Derived.Test.YtnegdabcjnhpdaaGreatDoorGA
import Derived.Test.YtnegdabcjnhpdaaGreatDoorGC
import Derived.Test.YtnegdabcjnhpdaaGreatDoorGK
import Derived.Test.YtnegdabcjnhpdaaGreatDoorGF
import Derived.Deep.AppendLies
import Derived.Test.YtnegdabcjnhpdaaGreatDoorMMake
import Derived.Test.YtnegdabcjnhpdaaGreatDoorDSem
import Derived.Deep.RegionHeld3
import Derived.BigQuiet
import Derived.Test.YtnegdabcjnhpdaaGreatDoorGM
import Derived.ProofKit
import Derived.Deep.Slices
namespace Go.Proofs.YtnegdabcjnhpdaaGreatDoor
open Go.RowKit
theorem getD_setX (X : List Nat) (i j v : Nat) : (X.set i v).getD j 0 = if j = i ∧ i < X.length then v else X.getD j 0 := by
  simp only [List.getD_eq_getElem?_getD, List.getElem?_set]
  by_cases h : i = j
  · subst h
    by_cases h2 : i < X.length
    · simp [h2]
    · simp [h2]
  · simp [h, Ne.symm h]
theorem getD_set_eq {X : List Nat} {i v : Nat} (h : i < X.length) : (X.set i v).getD i 0 = v := by rw [getD_setX, if_pos ⟨rfl, h⟩]
theorem getD_set_ne' {X : List Nat} {i j v : Nat} (h : j ≠ i) : (X.set i v).getD j 0 = X.getD j 0 := by rw [getD_setX, if_neg (fun x => h x.1)]
theorem upd_eq (f : Int → Option Int) (k v : Int) : upd f k v k = some v := by unfold upd; rw [if_pos rfl]
theorem upd_ne {f : Int → Option Int} {k v x : Int} (h : x ≠ k) : upd f k v x = f x := by unfold upd; rw [if_neg h]
theorem getD_app0 {l : List Nat} {x i : Nat} (h : i < l.length) : (l ++ [x]).getD i 0 = l.getD i 0 := by
  simp only [List.getD_eq_getElem?_getD]
  rw [List.getElem?_append_left h]
theorem getD_app1 {l : List Nat} {x : Nat} : (l ++ [x]).getD l.length 0 = x := by
  simp only [List.getD_eq_getElem?_getD]
  rw [List.getElem?_append_right (Nat.le_refl _)]
  simp
/-- One who stamps the record 5, ahead of the time i. -/
def Xs1 (cl : List Nat) (i : Nat) (s : Sm) : Prop := s.rc = 5 ∧ s.place = KC.bd 5 1 ∧ (s.pc = 0 ∨ s.pc = 1 ∨ (s.pc = 2 ∧ s.clock ≠ 0 ∧ ∃ p : Nat, s.point = (p : Int) ∧ p < i ∧ cl.getD (p + 1) 0 = s.clock) ∨ s.pc = 3)
structure Xg (g : Gs) (cl : List Nat) (i : Nat) : Prop where
  len : g.X.length = 208
  clk : 1 ≤ g.X.getD 0 0 ∧ g.X.getD 0 0 ≤ 1 + i
  b6 : g.k.born 6 = none
  st : (g.X.getD (KC.bd 5 1) 0 = 0 ∧ g.k.born 5 = none) ∨ ∃ s p : Nat, g.X.getD (KC.bd 5 1) 0 = s ∧ s ≠ 0 ∧ g.k.born 5 = some (p : Int) ∧ p < i ∧ cl.getD (p + 1) 0 = s
theorem xg0 : Xg g0 [1] 0 := by
  have h1 : (begX 40).getD 0 0 = 1 := by decide +kernel
  have h2 : (begX 40).getD (KC.bd 5 1) 0 = 0 := by decide +kernel
  exact ⟨begX_len 40, by show 1 ≤ (begX 40).getD 0 0 ∧ (begX 40).getD 0 0 ≤ 1 + 0; rw [h1]; omega, rfl, .inl ⟨h2, rfl⟩⟩
theorem xs0 : Xs1 [1] 0 ⟨5, KC.bd 5 1, 0, 0, 0⟩ := ⟨rfl, rfl, .inl rfl⟩
theorem Xs1.app {cl : List Nat} {i : Nat} {s : Sm} (h : Xs1 cl i s) (hl : cl.length = i + 1) (x : Nat) : Xs1 (cl ++ [x]) (i + 1) s := by
  obtain ⟨h1, h2, h3⟩ := h
  refine ⟨h1, h2, ?_⟩
  rcases h3 with a | a | ⟨a, b, p, c, d, e⟩ | a
  · exact .inl a
  · exact .inr (.inl a)
  · exact .inr (.inr (.inl ⟨a, b, p, c, by omega, by rw [getD_app0 (by omega)]; exact e⟩))
  · exact .inr (.inr (.inr a))
theorem Xg.app {g : Gs} {cl : List Nat} {i : Nat} (h : Xg g cl i) (hl : cl.length = i + 1) (x : Nat) (now T : Int) : Xg ⟨g.X, T, { g.k with now := now }⟩ (cl ++ [x]) (i + 1) := by
  refine ⟨h.len, by have := h.clk; exact ⟨this.1, by show g.X.getD 0 0 ≤ 1 + (i + 1); omega⟩, h.b6, ?_⟩
  rcases h.st with a | ⟨s, p, a, b, c, d, e⟩
  · exact .inl a
  · exact .inr ⟨s, p, a, b, c, by omega, by rw [getD_app0 (by omega)]; exact e⟩
/-- One of them steps at the time i. -/
theorem xs_step {g : Gs} {cl : List Nat} {i : Nat} {s : Sm} (h : Xg g cl i) (hl : cl.length = i + 1) (hs : Xs1 cl i s) (hn : g.k.now = (i : Int)) : Xg (s.step g).2 (cl ++ [g.X.getD 0 0]) (i + 1) ∧ Xs1 (cl ++ [g.X.getD 0 0]) (i + 1) (s.step g).1 := by
  have hx := hs.app hl (g.X.getD 0 0)
  have quiet : Xg { g with T := g.T + 1 } (cl ++ [g.X.getD 0 0]) (i + 1) := h.app hl _ g.k.now (g.T + 1)
  obtain ⟨h1, h2, h3⟩ := hs
  have hF : KC.bd 5 1 < g.X.length := by rw [h.len, KC_bd]; omega
  rcases h3 with p | p | ⟨p, cz, q, c, d, e⟩ | p
  · have es : s.step g = ({ s with pc := if g.X.getD s.place 0 = 0 then 1 else 3 }, { g with T := g.T + 1 }) := by unfold Sm.step; rw [if_pos p]
    rw [es]
    refine ⟨quiet, h1, h2, ?_⟩
    show (if g.X.getD s.place 0 = 0 then (1 : Int) else 3) = 0 ∨ (if g.X.getD s.place 0 = 0 then (1 : Int) else 3) = 1 ∨ _ ∨ (if g.X.getD s.place 0 = 0 then (1 : Int) else 3) = 3
    split
    · exact .inr (.inl rfl)
    · exact .inr (.inr (.inr rfl))
  · have es : s.step g = ({ s with pc := 2, clock := g.X.getD 0 0, point := g.k.now }, { g with T := g.T + 1 }) := by unfold Sm.step; rw [if_neg (by omega), if_pos p]
    rw [es]
    refine ⟨quiet, h1, h2, .inr (.inr (.inl ⟨rfl, by have := h.clk.1; show g.X.getD 0 0 ≠ 0; omega, i, hn, by omega, ?_⟩))⟩
    show (cl ++ [g.X.getD 0 0]).getD (i + 1) 0 = g.X.getD 0 0
    rw [← hl, getD_app1]
  · by_cases z : g.X.getD s.place 0 = 0
    · have es : s.step g = ({ s with pc := 3 }, ⟨g.X.set s.place s.clock, g.T + 1, { g.k with born := upd g.k.born s.rc s.point }⟩) := by unfold Sm.step; rw [if_neg (by omega), if_neg (by omega), if_pos p, if_pos z]
      rw [es, h1, h2]
      have hc0 : (g.X.set (KC.bd 5 1) s.clock).getD 0 0 = g.X.getD 0 0 := getD_set_ne' (by rw [KC_bd]; omega)
      refine ⟨⟨by show (g.X.set _ _).length = _; rw [List.length_set]; exact h.len, ?_, ?_, .inr ⟨s.clock, q, ?_, cz, ?_, by omega, by rw [getD_app0 (by omega)]; exact e⟩⟩, rfl, rfl, .inr (.inr (.inr rfl))⟩
      · show 1 ≤ (g.X.set _ _).getD 0 0 ∧ (g.X.set _ _).getD 0 0 ≤ 1 + (i + 1)
        rw [hc0]
        have := h.clk
        omega
      · show upd g.k.born 5 s.point 6 = none
        rw [upd_ne (by omega)]; exact h.b6
      · show (g.X.set (KC.bd 5 1) s.clock).getD (KC.bd 5 1) 0 = s.clock
        exact getD_set_eq hF
      · show upd g.k.born 5 s.point 5 = some (q : Int)
        rw [upd_eq, c]
    · have es : s.step g = ({ s with pc := 3 }, { g with T := g.T + 1 }) := by unfold Sm.step; rw [if_neg (by omega), if_neg (by omega), if_pos p, if_neg z]
      rw [es]
      exact ⟨quiet, h1, h2, .inr (.inr (.inr rfl))⟩
  · have es : s.step g = (s, g) := by unfold Sm.step; rw [if_neg (by omega), if_neg (by omega), if_neg (by omega)]
    rw [es]
    exact ⟨h.app hl _ g.k.now g.T, hx⟩
/-- The clock's Turn steps at the time i. -/
theorem xt_step {g : Gs} {cl : List Nat} {i : Nat} {t : Tu} (h : Xg g cl i) (hl : cl.length = i + 1) (hi : i < 1000) : Xg (t.step g).2 (cl ++ [g.X.getD 0 0]) (i + 1) := by
  have quiet : Xg { g with T := g.T + 1 } (cl ++ [g.X.getD 0 0]) (i + 1) := h.app hl _ g.k.now (g.T + 1)
  have hk := h.clk
  unfold Tu.step
  split
  · exact quiet
  split
  · unfold Tu.swap
    split
    · rename_i e
      have e4 : Mm.sumW t.clock 1 = t.clock + 1 := by
        unfold Mm.sumW
        omega
      rw [e4]
      have hn : ∀ j, j ≠ 0 → (g.X.set 0 (t.clock + 1)).getD j 0 = g.X.getD j 0 := fun j hj => getD_set_ne' hj
      refine ⟨by show (g.X.set _ _).length = _; rw [List.length_set]; exact h.len, ?_, h.b6, ?_⟩
      · show 1 ≤ (g.X.set 0 (t.clock + 1)).getD 0 0 ∧ (g.X.set 0 (t.clock + 1)).getD 0 0 ≤ 1 + (i + 1)
        rw [getD_set_eq (by have := h.len; omega)]
        omega
      · show ((g.X.set 0 (t.clock + 1)).getD (KC.bd 5 1) 0 = 0 ∧ _) ∨ ∃ s p : Nat, (g.X.set 0 (t.clock + 1)).getD (KC.bd 5 1) 0 = s ∧ _
        rw [hn _ (by rw [KC_bd]; omega)]
        exact quiet.st
    · exact quiet
  · exact h.app hl _ g.k.now g.T
/-- Behind its stamping nothing changes. -/
theorem xs_still {g : Gs} {s : Sm} (hs : s.place = KC.bd 5 1) (hz : g.X.getD (KC.bd 5 1) 0 ≠ 0) : (s.step g).2.X = g.X ∧ (s.step g).2.k = g.k ∧ (s.step g).1.place = KC.bd 5 1 := by
  unfold Sm.step
  split
  · exact ⟨rfl, rfl, hs⟩
  split
  · exact ⟨rfl, rfl, hs⟩
  split
  · rw [hs, if_neg hz]
    exact ⟨rfl, rfl, rfl⟩
  · exact ⟨rfl, rfl, hs⟩
end Go.Proofs.YtnegdabcjnhpdaaGreatDoor
/- Several who stamp, a Turn and a row of clocks, in the heap. -/
namespace Go.Proofs.YtnegdabcjnhpdaaGreatDoor
open Go.RowKit
open Mm (IsMem MS touched Only IsWords)
open Hh (WT)
def ptrs (ps : Nat → Nat) (j : Nat) : List Value := (List.range j).map fun i => .pointer (some ⟨ps i, 0, none⟩)
theorem ptrs_len (ps : Nat → Nat) (j : Nat) : (ptrs ps j).length = j := by simp [ptrs]
theorem ptrs_get (ps : Nat → Nat) {j i : Nat} (h : i < j) : (ptrs ps j)[i]? = some (.pointer (some ⟨ps i, 0, none⟩)) := by simp [ptrs, h]
theorem ptrs_push (ps : Nat → Nat) (j P : Nat) : ptrs ps j ++ [.pointer (some ⟨P, 0, none⟩)] = ptrs (fun i => if i = j then P else ps i) (j + 1) := by
  unfold ptrs
  rw [List.range_succ, List.map_append]
  congr 1
  · apply List.map_congr_left
    intro i hi
    simp at hi
    have : i ≠ j := by omega
    simp [this]
  · simp
theorem chg_grown {w w' : World} {row : Option Nat} (h : w.grownBy w' row) : Chg row.toList w w' := ⟨h.os, h.tape, h.output, h.size, fun i hi hn => h.block i hi fun e => hn (by rw [← e]; simp)⟩
theorem own_keep {w w' : World} {base : Nat} {e : TypeId} {v : Value} {n : Nat} {xs : List Value} (h : w.ownsRow base e 1 v n xs) (hk : ∀ (i : Nat) (cc : Array Value), base ≤ i → w.heap[i]? = some (.cells cc e (0, 0)) → w'.heap[i]? = w.heap[i]?) : w'.ownsRow base e 1 v n xs := by
  refine ⟨h.1, ?_⟩
  rcases h.2 with hn | ⟨g, cap, cur, rfl, hb', hgg, rest⟩
  · exact .inl hn
  · exact .inr ⟨g, cap, cur, rfl, hb', (hk g cur hb' hgg).trans hgg, rest⟩
theorem row_type {w : World} {base : Nat} {e : TypeId} {v : Value} {n : Nat} {xs : List Value} (h : w.ownsRow base e 1 v n xs) {i : Nat} (hi : i ∈ v.ownBlock.toList) : base ≤ i ∧ ∃ cc, w.heap[i]? = some (.cells cc e (0, 0)) := by
  rcases h.2 with ⟨rfl, _⟩ | ⟨g, cap, cur, rfl, hb, hg, _⟩
  · simp [Value.ownBlock] at hi
  · simp [Value.ownBlock] at hi
    subst hi
    exact ⟨hb, cur, hg⟩
theorem GW.chg2 {w w' : World} {lo M G B N : Nat} {g : Gs} {L : List Nat} (h : GW w lo M G B N g) (ch : Chg L w w') (hn : M ∉ L ∧ G ∉ L ∧ B ∉ L) (h0 : 0 ∉ L) (hL : ∀ i ∈ L, (w.heap.size ≤ i ∨ ∃ c t f, w.heap[i]? = some (.cells c t f))) : GW w' lo M G B N g := by
  have hl1 := h.lo1
  refine ⟨h.mem.chg ch hn.1 hn.2.1, ?_, WT.chg h.wt ch h0, h.len, h.tb, h.now, h.ne, by have := ch.size; omega⟩
  obtain ⟨mb, mt, x⟩ := h.book
  exact ⟨mb, mt, x.chg ch hn.2.2 hL⟩
/-- The law's world. -/
structure Xz (w wr : World) (lo Wb M G B base : Nat) (g : Gs) : Prop where
  t : Wt wr lo Wb M G B ⟨g, 5, [], false⟩ (.slice none 0 0)
  bel : Below w.heap.size w wr
  hlo : w.heap.size ≤ lo
  hb : Wb < base ∧ M < base ∧ G < base ∧ B < base ∧ lo ≤ base ∧ base ≤ wr.heap.size
section
variable {w wr w' : World} {lo Wb M G B base : Nat} {g g' : Gs}
theorem Xz.below (h : Xz w wr lo Wb M G B base g) (b : Below wr.heap.size wr w') : Xz w w' lo Wb M G B base g :=
  ⟨⟨h.t.gw.below b, (b.block Wb (lt_of_block h.t.blk)).trans h.t.blk, ⟨rfl, .inl ⟨rfl, rfl⟩⟩, h.t.ne, h.t.lo⟩, seq_below h.bel b, h.hlo, by have := h.hb; have := b.size; omega⟩
theorem Xz.drew (h : Xz w wr lo Wb M G B base g) : Xz w wr.drew lo Wb M G B base g := h.below (Below.refl _ _).drew
theorem Xz.cellW (h : Xz w wr lo Wb M G B base g) {i : Nat} {v : Value} (hi : (wlC M B 5 (.slice none 0 0) false)[i]? = some v) : wr.cell? ⟨Wb, i, none⟩ = some v := Blk.cell (t := 35) h.t.blk hi
theorem Xz.cf (x : Xz w wr lo Wb M G B base g) : (wr.cell? ⟨Wb, 0, none⟩ = some (.int .i64 40) ∧ wr.cell? ⟨Wb, 1, none⟩ = some (.int .i64 3) ∧ wr.cell? ⟨Wb, 2, none⟩ = some (.int .i64 1) ∧ wr.cell? ⟨Wb, 3, none⟩ = some (.int .i64 1) ∧ wr.cell? ⟨Wb, 4, none⟩ = some (.int .i64 9) ∧ wr.cell? ⟨Wb, 5, none⟩ = some (.int .i64 0)) ∧ wr.cell? ⟨Wb, 7, none⟩ = some (.pointer (some ⟨B, 0, none⟩)) :=
  ⟨⟨x.cellW rfl, x.cellW rfl, x.cellW rfl, x.cellW rfl, x.cellW rfl, x.cellW rfl⟩, x.cellW rfl⟩
/-- A machine of one block, from base on, has gone a step. -/
theorem Xz.cm {P : Nat} (h : Xz w wr lo Wb M G B base g) (hg : GW w' lo M G B KC.N g') (c : Cm lo [P, M, G, B] wr w') (hP : base ≤ P) : Xz w w' lo Wb M G B base g' := by
  have hb := h.hb
  have hn := h.t.ne
  have hl := h.t.gw.lo1
  have hlo := h.hlo
  refine ⟨⟨hg, c.at h.t.blk (fun hm => ?_), ⟨rfl, .inl ⟨rfl, rfl⟩⟩, h.t.ne, h.t.lo⟩, c.below h.bel (fun i hi => ?_) h.hlo (Nat.le_refl _), h.hlo, by have := c.size; omega⟩
  · simp at hm; omega
  · simp at hi
    rcases hi with rfl | rfl | rfl | rfl <;> omega
/-- A row has grown. -/
theorem Xz.grown {v : Value} {e : TypeId} {n : Nat} {xs : List Value} (h : Xz w wr lo Wb M G B base g) (ho : wr.ownsRow base e 1 v n xs) (hg : wr.grownBy w' v.ownBlock) : Xz w w' lo Wb M G B base g := by
  have c := chg_grown hg
  have hb := h.hb
  have far : ∀ i, i < base → i ∉ v.ownBlock.toList := fun i hi hm => by have := (row_type ho hm).1; omega
  have hl := h.t.gw.lo1
  have hlo := h.hlo
  refine ⟨⟨h.t.gw.chg2 c ⟨far M hb.2.1, far G hb.2.2.1, far B hb.2.2.2.1⟩ (far 0 (by omega)) (fun i hi => ?_), c.at h.t.blk (far Wb hb.1), ⟨rfl, .inl ⟨rfl, rfl⟩⟩, h.t.ne, h.t.lo⟩, c.below h.bel (fun i hi => ?_) (Nat.le_refl _), h.hlo, by have := c.size; omega⟩
  · obtain ⟨_, cc, e1⟩ := row_type ho hi
    exact .inr ⟨_, _, _, e1⟩
  · have := (row_type ho hi).1
    omega
/-- The time is set. -/
theorem Xz.time (h : Xz w wr lo Wb M G B base g) {now : Int} (hnw : -4611686018427387904 < now ∧ now < 4611686018427387904) : Xz w (wr.setCell ⟨B, 0, none⟩ (.int .i64 now)) lo Wb M G B base { g with k := { g.k with now := now } } := by
  obtain ⟨t1, c⟩ := h.t.time hnw
  have hl := h.t.gw.lo1
  have hlo := h.hlo
  exact ⟨t1, c.below h.bel (fun j hj => by simp at hj; omega) h.hlo (Nat.le_refl _), h.hlo, by have := h.hb; have := c.size; omega⟩
theorem Xz.cellB (h : Xz w wr lo Wb M G B base g) : (∃ z, wr.cell? ⟨B, 0, none⟩ = some (.int .i64 z)) ∧ wr.frozen? ⟨B, 0, none⟩ = false := by
  obtain ⟨mb, mt, hk⟩ := h.t.gw.book
  exact ⟨⟨_, hk.cells.1⟩, hk.free 0⟩
/-- Those who stamp, in a list. -/
structure Xl (w wr : World) (lo Wb M G B base k : Nat) (g : Gs) (vl : Value) (ps : Nat → Nat) (sf : Nat → Sm) : Prop where
  z : Xz w wr lo Wb M G B base g
  st : ∀ j, j < k → ∃ c, wr.heap[ps j]? = some (.cells c 70 (0, 0)) ∧ SmAt c 0 B (sf j) ∧ (sf j).Ok KC.N
  far : ∀ j, j < k → base ≤ ps j
  apart : ∀ i j, i < k → j < k → i ≠ j → ps i ≠ ps j
  own : wr.ownsRow base 27 1 vl k (ptrs ps k)
variable {k : Nat} {vl : Value} {ps : Nat → Nat} {sf : Nat → Sm}
theorem Xl.below (h : Xl w wr lo Wb M G B base k g vl ps sf) (b : Below wr.heap.size wr w') : Xl w w' lo Wb M G B base k g vl ps sf :=
  ⟨h.z.below b, fun j hj => by
    obtain ⟨c, q1, q2⟩ := h.st j hj
    exact ⟨c, (b.block _ (lt_of_block q1)).trans q1, q2⟩, h.far, h.apart, own_below h.own b⟩
theorem Xl.push (h : Xl w wr lo Wb M G B base k g vl ps sf) {P : Nat} {s : Sm} {c0 : Array Value} (hp : wr.heap[P]? = some (.cells c0 70 (0, 0))) (hs : SmAt c0 0 B s) (hk : s.Ok KC.N) (hP : base ≤ P) (hn : ∀ i, i < k → ps i ≠ P)
    {r cap : Nat} (hown : w'.ownsRow base 27 1 (.slice (some ⟨r, 0, none⟩) (k + 1) cap) (k + 1) (ptrs ps k ++ [.pointer (some ⟨P, 0, none⟩)])) (hg : wr.grownBy w' vl.ownBlock) :
    Xl w w' lo Wb M G B base (k + 1) g (.slice (some ⟨r, 0, none⟩) (k + 1) cap) (fun i => if i = k then P else ps i) (fun i => if i = k then s else sf i) := by
  have c := chg_grown hg
  have keep : ∀ (i : Nat) (cc : Array Value), wr.heap[i]? = some (.cells cc 70 (0, 0)) → w'.heap[i]? = some (.cells cc 70 (0, 0)) := fun i cc hi => c.at hi fun hm => by
    obtain ⟨_, cc', e1⟩ := row_type h.own hm
    rw [hi] at e1
    cases e1
  refine ⟨h.z.grown h.own hg, fun j hj => ?_, fun j hj => ?_, fun i j hi hj hij => ?_, by rw [← ptrs_push]; exact hown⟩
  · by_cases e : j = k
    · simp only [if_pos e]; exact ⟨c0, keep P c0 hp, hs, hk⟩
    · simp only [if_neg e]
      obtain ⟨cc, q1, q2⟩ := h.st j (by omega)
      exact ⟨cc, keep _ cc q1, q2⟩
  · by_cases e : j = k
    · simp only [if_pos e]; exact hP
    · simp only [if_neg e]; exact h.far j (by omega)
  · by_cases e : i = k
    · simp only [if_pos e, if_neg (show j ≠ k by omega)]
      exact (hn j (by omega)).symm
    · by_cases e' : j = k
      · simp only [if_neg e, if_pos e']
        exact hn i (by omega)
      · simp only [if_neg e, if_neg e']
        exact h.apart i j (by omega) (by omega) hij
/-- With the Turn and the clocks. -/
structure Xw (w wr : World) (lo Wb M G B base k : Nat) (g : Gs) (vl vc : Value) (ps : Nat → Nat) (sf : Nat → Sm) (Pt : Nat) (t : Tu) (cl : List Nat) : Prop where
  l : Xl w wr lo Wb M G B base k g vl ps sf
  tu : ∃ c, wr.heap[Pt]? = some (.cells c 74 (0, 0)) ∧ TuAt c B t ∧ t.Ok
  tb : base ≤ Pt
  oc : wr.ownsRow base 38 1 vc cl.length (cl.map fun x => .int .u64 (x : Nat))
variable {vc : Value} {Pt : Nat} {t : Tu} {cl : List Nat}
theorem Xw.below (h : Xw w wr lo Wb M G B base k g vl vc ps sf Pt t cl) (b : Below wr.heap.size wr w') : Xw w w' lo Wb M G B base k g vl vc ps sf Pt t cl := by
  obtain ⟨c, q1, q2⟩ := h.tu
  exact ⟨h.l.below b, ⟨c, (b.block _ (lt_of_block q1)).trans q1, q2⟩, h.tb, own_below h.oc b⟩
theorem Xw.drew (h : Xw w wr lo Wb M G B base k g vl vc ps sf Pt t cl) : Xw w wr.drew lo Wb M G B base k g vl vc ps sf Pt t cl := h.below (Below.refl _ _).drew
theorem Xw.time (h : Xw w wr lo Wb M G B base k g vl vc ps sf Pt t cl) {now : Int} (hnw : -4611686018427387904 < now ∧ now < 4611686018427387904) : Xw w (wr.setCell ⟨B, 0, none⟩ (.int .i64 now)) lo Wb M G B base k { g with k := { g.k with now := now } } vl vc ps sf Pt t cl := by
  have hb := h.l.z.hb
  have keep : ∀ (i : Nat), base ≤ i → (wr.setCell ⟨B, 0, none⟩ (.int .i64 now)).heap[i]? = wr.heap[i]? := fun i hi => Below.heap_setCell _ ⟨B, 0, none⟩ _ i (by show i ≠ B; omega)
  obtain ⟨c, q1, q2⟩ := h.tu
  exact ⟨⟨h.l.z.time hnw, fun j hj => by
    obtain ⟨c, q1, q2⟩ := h.l.st j hj
    exact ⟨c, (keep _ (h.l.far j hj)).trans q1, q2⟩, h.l.far, h.l.apart, own_keep h.l.own fun i _ hi _ => keep i hi⟩, ⟨c, (keep _ h.tb).trans q1, q2⟩, h.tb, own_keep h.oc fun i _ hi _ => keep i hi⟩
/-- One more clock. -/
theorem Xw.push {o : Obj} {x r cap : Nat} (h : Xw w wr lo Wb M G B base k g vl vc ps sf Pt t cl) (hg : (wr.alloc o).grownBy w' vc.ownBlock) (hown : w'.ownsRow base 38 1 (.slice (some ⟨r, 0, none⟩) (cl.length + 1) cap) (cl.length + 1) ((cl.map fun x => .int .u64 (x : Nat)) ++ [.int .u64 (x : Nat)])) :
    Xw w w' lo Wb M G B base k g vl (.slice (some ⟨r, 0, none⟩) (cl.length + 1) cap) ps sf Pt t (cl ++ [x]) := by
  have a := h.below (alloc_below wr o)
  have c := chg_grown hg
  have keep : ∀ (i : Nat) (cc : Array Value) (e : TypeId), e ≠ 38 → (wr.alloc o).heap[i]? = some (.cells cc e (0, 0)) → w'.heap[i]? = (wr.alloc o).heap[i]? := fun i cc e he hi => c.block i (lt_of_block hi) fun hm => by
    obtain ⟨_, cc', e1⟩ := row_type a.oc hm
    rw [hi] at e1
    cases e1
    exact he rfl
  obtain ⟨c2, q1, q2⟩ := a.tu
  exact ⟨⟨a.l.z.grown a.oc hg, fun j hj => by
    obtain ⟨c, q1, q2⟩ := a.l.st j hj
    exact ⟨c, (keep _ c 70 (by decide) q1).trans q1, q2⟩, a.l.far, a.l.apart, own_keep a.l.own fun i cc _ hi => keep i cc 27 (by decide) hi⟩, ⟨c2, (keep _ c2 74 (by decide) q1).trans q1, q2⟩, a.tb, by rw [List.length_append, List.map_append]; exact hown⟩
theorem Sm.step_keeps2 (s : Sm) (g : Gs) : (s.step g).1.rc = s.rc ∧ (s.step g).1.place = s.place := by
  unfold Sm.step
  repeat' split
  all_goals exact ⟨rfl, rfl⟩
/-- One of them steps. -/
theorem stamp_one {j : Nat} (h : Xw w wr lo Wb M G B base k g vl vc ps sf Pt t cl) (hj : j < k) (hT : g.T + 1 < 4611686018427387904) :
    Calls Tryz.prog 9 #[.pointer (some ⟨ps j, 0, none⟩), .pointer (some ⟨M, 0, none⟩)] wr fun e w' => e = .returned (.bool (decide (((sf j).step g).1.pc = 3))) ∧ Xw w w' lo Wb M G B base k ((sf j).step g).2 vl vc ps (fun i => if i = j then ((sf j).step g).1 else sf i) Pt t cl := by
  obtain ⟨c, q1, q2, q3⟩ := h.l.st j hj
  have hb := h.l.z.hb
  have hf := h.l.far j hj
  have hl := h.l.z.t.gw.lo1
  refine (stp_any (InF.start h.l.z.t.gw q1 (by omega) (by omega)) q2 q3 hT).mono fun e w' ⟨e1, i2⟩ => ⟨e1, ?_⟩
  have keep : ∀ (i : Nat) (cc : Array Value) (e : TypeId), base ≤ i → i ≠ ps j → wr.heap[i]? = some (.cells cc e (0, 0)) → w'.heap[i]? = some (.cells cc e (0, 0)) := fun i cc e hi hne hx => i2.cm.at hx fun hm => by
    simp at hm
    omega
  obtain ⟨c2, p1, p2⟩ := h.tu
  have ne2 : ∀ (i : Nat) (cc : Array Value) (e : TypeId), e ≠ 70 → wr.heap[i]? = some (.cells cc e (0, 0)) → i ≠ ps j := fun i cc e he hx e2 => by
    rw [e2, q1] at hx
    cases hx
    exact he rfl
  refine ⟨⟨h.l.z.cm i2.gw i2.cm hf, fun i hi => ?_, h.l.far, h.l.apart, own_keep h.l.own fun i cc hi hx => (keep i cc 27 hi (ne2 i cc 27 (by decide) hx) hx).trans hx.symm⟩, ⟨c2, keep Pt c2 74 h.tb (ne2 Pt c2 74 (by decide) p1) p1, p2⟩, h.tb, own_keep h.oc fun i cc hi hx => (keep i cc 38 hi (ne2 i cc 38 (by decide) hx) hx).trans hx.symm⟩
  by_cases e : i = j
  · subst e
    simp only [if_true]
    have hk := Sm.step_keeps2 (sf i) g
    exact ⟨_, i2.blk, smPut_at q2 hk.1 hk.2, Sm.step_ok q3 (h.l.z.t.gw.mem.fits 0) h.l.z.t.gw.now⟩
  · simp only [if_neg e]
    obtain ⟨c3, r1, r2⟩ := h.l.st i hi
    exact ⟨c3, keep _ c3 70 (h.l.far i hi) (h.l.apart i j hi hj e) r1, r2⟩
/-- The Turn steps. -/
theorem turn_x (h : Xw w wr lo Wb M G B base k g vl vc ps sf Pt t cl) (hT : g.T + 1 < 4611686018427387904) :
    Calls Tryz.prog 10 #[.pointer (some ⟨Pt, 0, none⟩), .pointer (some ⟨M, 0, none⟩)] wr fun e w' => e = .returned (.bool (decide ((t.step g).1.pc = 2))) ∧ Xw w w' lo Wb M G B base k (t.step g).2 vl vc ps sf Pt (t.step g).1 cl := by
  obtain ⟨c, q1, q2, q3⟩ := h.tu
  have hb := h.l.z.hb
  have hf := h.tb
  have hl := h.l.z.t.gw.lo1
  refine (tu_any (InF.start h.l.z.t.gw q1 (by omega) (by omega)) q2 q3 hT (by rw [KC_N]; omega)).mono fun e w' ⟨e1, c', i2, i3⟩ => ⟨e1, ?_⟩
  have keep : ∀ (i : Nat) (cc : Array Value) (e : TypeId), base ≤ i → e ≠ 74 → wr.heap[i]? = some (.cells cc e (0, 0)) → w'.heap[i]? = some (.cells cc e (0, 0)) := fun i cc e hi hne hx => i2.cm.at hx fun hm => by
    simp at hm
    rcases hm with rfl | hm
    · rw [q1] at hx
      cases hx
      exact hne rfl
    · omega
  exact ⟨⟨h.l.z.cm i2.gw i2.cm hf, fun i hi => by
    obtain ⟨c3, r1, r2⟩ := h.l.st i hi
    exact ⟨c3, keep _ c3 70 (h.l.far i hi) (by decide) r1, r2⟩, h.l.far, h.l.apart, own_keep h.l.own fun i cc hi hx => (keep i cc 27 hi (by decide) hx).trans hx.symm⟩, ⟨c', i2.blk, i3, Tu.step_ok q3 (h.l.z.t.gw.mem.fits 0)⟩, h.tb, own_keep h.oc fun i cc hi hx => (keep i cc 38 hi (by decide) hx).trans hx.symm⟩
/-- Another Turn in its place. -/
theorem Xw.turned {P : Nat} {c : Array Value} (h : Xw w wr lo Wb M G B base k g vl vc ps sf Pt t cl) (hp : wr.heap[P]? = some (.cells c 74 (0, 0))) (ht : TuAt c B ⟨0, 0, 0, 0⟩) (hP : base ≤ P) : Xw w wr lo Wb M G B base k g vl vc ps sf P ⟨0, 0, 0, 0⟩ cl := ⟨h.l, ⟨c, hp, ht, tu0_ok⟩, hP, h.oc⟩
theorem mkStamp (B : Nat) (w : World) : Calls Tryz.prog 6 #[.agg #[.int .i64 40, .int .i64 3, .int .i64 1, .int .i64 1, .int .i64 9, .int .i64 0], .int .i64 5, .pointer (some ⟨B, 0, none⟩)] w fun e w' => ∃ P c, e = .returned (.pointer (some ⟨P, 0, none⟩)) ∧ w'.heap[P]? = some (.cells c 70 (0, 0)) ∧ SmAt c 0 B ⟨5, KC.bd 5 1, 0, 0, 0⟩ ∧ w.heap.size ≤ P ∧ Below w.heap.size w w' :=
  (stampV (some ⟨B, 0, none⟩) (z := (KC.bd 5 1 : Nat)) (Int.natCast_nonneg _) (fun w => stampOf_as (some ⟨B, 0, none⟩) (fun w => KC_body (s := 5) (i := 1) (by omega) (by omega) rfl rfl w) w) B rfl w).mono fun _ _ ⟨P, h1, h2, h3, h4⟩ => ⟨P, _, h1, h2, sm0_at B 5 (KC.bd 5 1), h3, h4⟩
theorem sm5_ok : (⟨5, KC.bd 5 1, 0, 0, 0⟩ : Sm).Ok KC.N := sm0_ok (r := 5) (by rw [KC_bd, KC_N]; omega) (by omega)
end
end Go.Proofs.YtnegdabcjnhpdaaGreatDoor
/- A memory's words, told. -/
namespace Go.Proofs.YtnegdabcjnhpdaaGreatDoor.Mm
open Go.RowKit
set_option maxHeartbeats 400000 in
theorem words_any {M G : Nat} {s : MS} {w : World} (h : IsMem w M G s) (hl : s.X.length ≤ 65536) :
    Calls Tryz.prog 8 #[.pointer (some ⟨M, 0, none⟩)] w fun e w' => ∃ R, e = .returned (.slice (some ⟨R, 0, none⟩) s.X.length s.X.length) ∧ IsWords w' R s.X ∧ w.heap.size ≤ R ∧ Below w.heap.size w w' := by
  obtain ⟨i0, hi, hz0, hz1, hz2⟩ := info_parts Tryz.info38
  have c1 := size_any h
  have hsz : (Tryz.prog.info? 38).map (·.size) = some 1 := by rw [hi]; simp [hz1]
  have HM : Hid (IsMem w M G s) := h
  clear h
  generalize hn : s.X.length = n at *
  go_enter Tryz.func8, Tryz.ntmps8
  go_wp2_with (first
    | (go_at_call 22; refine c1.mono ?_; rintro e w' ⟨rfl, rfl⟩)
    | (at_make; refine wpList_make_full _ rfl _ _ 39 rfl w.heap.size 38 i0 (.int .u64 0) 1 Tryz.underlying39 hi hz0 hz1 .i64 .i64 n n n rfl rfl rfl rfl ?c1 ?c2 (Nat.le_refl _) ?_))
  case c1 => rw [hz2]; omega
  case c2 => unfold maxLen; omega
  · intro w1 hown hgrow
    have hr := made_words hown rfl
    have hb := of_grown hgrow
    have hM1 := HM.out.below hb
    have h0 := hM1.c0
    rw [hn] at h0
    have HR : Hid (IsWords w1 w.heap.size (List.replicate n 0)) := hr
    have HB : Hid (Below w.heap.size w w1) := hb
    clear hown hgrow hr hb
    go_wp2_with ((refine wpList_copy_splice rfl (.tmp 9) (.tmp 13) 39 39 rfl 38 Tryz.underlying39 hsz _ _ n n n n rfl rfl w.heap.size 0 (List.replicate n (Value.int .u64 0)) 38 ?d1 (wordsOf s.X).toList ?d2 ?d3 ?d4 ?d5 w.heap.size w HB.out (Nat.le_refl _) ?_))
    case d1 => exact HR.out.trans (by simp [wordsOf])
    case d2 => simp [wordsOf, hn]
    case d3 => first | exact fun _ j v hj => words_cell hM1.row j v hj | exact fun _ => ⟨rfl, _, rfl, fun j v hj => by rw [add_none]; exact words_cell hM1.row _ v (by simpa using hj)⟩
    case d4 => simp [wordsOf, hn]
    case d5 => exact words_one _
    · intro w2 hrow hb2
      have HR2 : Hid (IsWords w2 w.heap.size s.X) := by
        have := hrow.out
        rw [words_splice n s.X hn] at this
        exact this
      clear hrow HR hM1 h0
      go_wp2
      go_ret
      exact ⟨_, rfl, HR2.out, Nat.le_refl _, hb2⟩

end Go.Proofs.YtnegdabcjnhpdaaGreatDoor.Mm
namespace Go.Proofs.YtnegdabcjnhpdaaGreatDoor
open Go.RowKit
theorem wordsX {w : World} {M G : Nat} {X : List Nat} {T : Int} {n : Nat} (h : MemX w M G X T) (hn : X.length = n) (hl : n ≤ 65536) : Calls Tryz.prog 8 #[.pointer (some ⟨M, 0, none⟩)] w fun e w' => ∃ R, e = .returned (.slice (some ⟨R, 0, none⟩) n n) ∧ Mm.IsWords w' R X ∧ w.heap.size ≤ R ∧ Below w.heap.size w w' := by
  obtain ⟨m, hm, hX, _⟩ := h
  subst hX hn
  exact Mm.words_any hm hl
theorem words_at {w : World} {R : Nat} {X : List Nat} (h : Mm.IsWords w R X) {i : Nat} (hi : i < X.length) : w.cell? ⟨R, i, none⟩ = some (.int .u64 ((X.getD i 0 : Nat) : Int)) := by
  refine Mm.words_cell h i _ ?_
  simp [Mm.wordsOf, List.getD_eq_getElem?_getD, hi]
end Go.Proofs.YtnegdabcjnhpdaaGreatDoor
/- The law of stamps: the walk. -/
namespace Go.Proofs.YtnegdabcjnhpdaaGreatDoor
open Go.RowKit
open Mm (IsMem MS touched Only IsWords)
open Hh (WT)
def RdI (w : World) (ad : Option Addr) (n : Nat) (Z : Nat → Int) : Prop := ∀ i, i < n → ∃ b off, ad = some ⟨b, off, none⟩ ∧ b < w.heap.size ∧ w.cell? ⟨b, off + i, none⟩ = some (.int .i64 (Z i))
theorem infoP27 : (Tryz.prog.info? 27).map (fun i => (i.zero, i.size, i.bytes)) = some (some (.pointer none), 1, 8) := by kernel_rfl
theorem infoU38 : (Tryz.prog.info? 38).map (fun i => (i.zero, i.size, i.bytes)) = some (some (.int .u64 0), 1, 8) := by kernel_rfl
theorem Xz.ofBegun {w w1 w2 : World} {Wb M G B : Nat} (b : Below w.heap.size w w1) (h : Begun w1 w2 Wb M G B) : Xz w w2 w1.heap.size Wb M G B w2.heap.size g0 := by
  have t0 : Wt w2 w1.heap.size Wb M G B ⟨g0, 5, [], false⟩ (.slice none 0 0) := ⟨by rw [KC_N]; exact h.gw, h.blk, ⟨rfl, .inl ⟨rfl, rfl⟩⟩, h.ne, h.lo⟩
  have hM := t0.gw.mem.lt
  have hB : B < w2.heap.size := by obtain ⟨_, _, x⟩ := t0.gw.book; exact x.lt
  have hW := lt_of_block t0.blk
  have hl := t0.gw.lo1
  exact ⟨t0, seq_below b h.bel, b.size, by omega⟩
theorem Xl.start {w wr : World} {lo Wb M G B base : Nat} {g : Gs} (h : Xz w wr lo Wb M G B base g) : Xl w wr lo Wb M G B base 0 g (.slice none 0 0) (fun _ => 0) (fun _ => ⟨5, KC.bd 5 1, 0, 0, 0⟩) :=
  ⟨h, fun j hj => by omega, fun j hj => by omega, fun i j hi => by omega, ⟨rfl, .inl ⟨rfl, rfl⟩⟩⟩
theorem Xl.lt {w wr : World} {lo Wb M G B base k : Nat} {g : Gs} {vl : Value} {ps : Nat → Nat} {sf : Nat → Sm} (h : Xl w wr lo Wb M G B base k g vl ps sf) : ∀ i, i < k → ps i < wr.heap.size := fun i hi => by
  obtain ⟨c, q1, _⟩ := h.st i hi
  exact lt_of_block q1
theorem Xl.slice {w wr : World} {lo Wb M G B base k : Nat} {g : Gs} {vl : Value} {ps : Nat → Nat} {sf : Nat → Sm} (h : Xl w wr lo Wb M G B base k g vl ps sf) (hk : 0 < k) : ∃ L cap, vl = .slice (some ⟨L, 0, none⟩) k cap := by
  obtain ⟨L, cap, e, _⟩ := h.own.form hk
  exact ⟨L, cap, e⟩
theorem Xw.slice {w wr : World} {lo Wb M G B base k : Nat} {g : Gs} {vl vc : Value} {ps : Nat → Nat} {sf : Nat → Sm} {Pt : Nat} {t : Tu} {cl : List Nat} (h : Xw w wr lo Wb M G B base k g vl vc ps sf Pt t cl) (hk : 0 < cl.length) : ∃ L cap, vc = .slice (some ⟨L, 0, none⟩) cl.length cap := by
  obtain ⟨L, cap, e, _⟩ := h.oc.form hk
  exact ⟨L, cap, e⟩
theorem row_at {w : World} {base : Nat} {e : TypeId} {r n cap : Nat} {xs : List Value} (h : w.ownsRow base e 1 (.slice (some ⟨r, 0, none⟩) n cap) n xs) {j : Nat} {u : Value} (hu : xs[j]? = some u) : w.cell? ⟨r, j, none⟩ = some u := by
  have := h.cells (g := r) rfl j u hu
  have e0 : ∀ o i, (⟨r, o, none⟩ : Addr).add i = ⟨r, o + i, none⟩ := fun o i => by simp [Addr.add]
  rw [e0, Nat.zero_add] at this
  exact this
set_option linter.unusedSimpArgs false in
set_option maxRecDepth 100000 in
set_option maxHeartbeats 16000000 in
theorem stamps_law0 (n : Int) (hn : 0 ≤ n ∧ n ≤ 255) (ad : Option Addr) (len cap : Nat) (Z : Nat → Int) {w : World} (hZ : RdI w ad len Z) (hw : WT w) (cA : ∀ wr, Below w.heap.size w wr → Calls Tryz.prog 4 #[] wr fun e w' => e = .returned (.bool true) ∧ Below wr.heap.size wr w') :
    Calls Tryz.prog 3 #[.int .u8 n, .slice ad len cap] w fun e w' => e = .returned (.bool true) ∧ Below w.heap.size w w' := by
  have b0 := Below.refl w.heap.size w
  have c5 := fun (wr : World) (h : Below w.heap.size w wr) => begin_any (hw.below h)
  obtain ⟨q, hq, hq4⟩ : ∃ q : Nat, n % 4 = (q : Int) ∧ q < 4 := ⟨(n % 4).toNat, by omega, by omega⟩
  obtain ⟨i27, hi27, hz27, hy27, hx27⟩ := info_parts infoP27
  obtain ⟨i38, hi38, hz38, hy38, hx38⟩ := info_parts infoU38
  go_enter Tryz.func3, Tryz.ntmps3
  go_upto_region 4 with (first
    | (go_at_call 4; refine (cA _ b0).mono ?_; rintro e w1 ⟨rfl, b1⟩)
    | (go_at_call 5; refine (c5 _ b1).mono ?_; rintro e w2 ⟨Wb, M, G, B, rfl, bg⟩))
  have xl := Xl.start (Xz.ofBegun b1 bg)
  clear bg c5
  generalize w1.heap.size = lo at *
  generalize w2.heap.size = base at xl
  clear b1 b0
  go_wp2
  clear hq
  go_loopw [7, 8] (fun ll ii wr => ∃ (j : Nat) (ps : Nat → Nat) (sf : Nat → Sm), j ≤ 1 + q ∧ ii = .int .i64 j ∧ Xl w wr lo Wb M G B base j g0 ll ps sf ∧ ∀ i, i < j → sf i = ⟨5, KC.bd 5 1, 0, 0, 0⟩) (fun _ ii _ => 1 + q - (intOf ii).toNat)
  case atStart => exact ⟨0, _, _, by omega, rfl, xl, fun i hi => by omega⟩
  case round =>
    clear xl
    obtain ⟨j, ps, sf, hj, rfl, xl, hsf⟩ := hrel
    by_cases hjq : j < 1 + q
    · have hjI : (j : Int) < 1 + (q : Int) := by omega
      have h63 : j + 1 ≤ maxLen := by unfold maxLen; omega
      have hby : (j + 1) * 8 ≤ 140737488355328 := by omega
      go_upto_region 9 with fail
      replace xl := xl.below (Below.refl _ _).drew
      go_region_held3 (fun wq => (wq.cell? ⟨Wb, 0, none⟩ = some (.int .i64 40) ∧ wq.cell? ⟨Wb, 1, none⟩ = some (.int .i64 3) ∧ wq.cell? ⟨Wb, 2, none⟩ = some (.int .i64 1) ∧ wq.cell? ⟨Wb, 3, none⟩ = some (.int .i64 1) ∧ wq.cell? ⟨Wb, 4, none⟩ = some (.int .i64 9) ∧ wq.cell? ⟨Wb, 5, none⟩ = some (.int .i64 0)) ∧ wq.cell? ⟨Wb, 7, none⟩ = some (.pointer (some ⟨B, 0, none⟩)))
        (first | with_reducible exact xl1.z.cf | with_reducible exact xl.z.cf | with_reducible exact (xl.below (alloc_below _ _)).z.cf)
        (first
          | (go_at_call 6; with_reducible refine (mkStamp _ _).mono ?_; rintro e w10 ⟨P, c0, rfl, hp, hs, hP, hb⟩; have hlt0 := xl.z.hb; have hsh := xl.lt; replace xl := xl.below hb)
          | (refine step_append_lies _ (by rfl) _ _ _ (by rfl) base 27 i27 _ 1 8 Tryz.underlying26 hi27 hz27 hy27 hx27 rfl (by decide) _ j (ptrs ps j) (by rfl) (xl.own.alloc _) ⟨_, 0, none⟩ 1 1 [.pointer (some ⟨P, 0, none⟩)] (by rfl) (by rfl) (World.news_of_block (cs := #[.pointer (some ⟨P, 0, none⟩)]) (t := 27) (fr := (0, 0)) (heap_alloc_new _ _)) (by simp [Value.oneCell']) (by omega) h63 hby (by have := xl.z.hb; simp; omega) (w10.heap.size + 1) (by simp) ?_; intro gg cap1 w11 hown1 hgrow hat hlt; have xl1 := (xl.below (alloc_below w10 _)).push ((alloc_below w10 _).block P (lt_of_block hp) ▸ hp) hs sm5_ok (by omega) (fun i hi => by have := hsh i hi; omega) hown1 hgrow))
      clear hown1 hgrow hat hlt hlt0 hsh hb hP hp hs xl
      go_wp2
      go_roundw
      case rel => exact ⟨j + 1, _, _, by omega, by go_num, xl1, fun i hi => by
        by_cases e : i = j
        · simp [e]
        · simp only [if_neg e]; exact hsf i (by omega)⟩
      case measure => simp [intOf]; omega
    · have hjI : ¬ (j : Int) < 1 + (q : Int) := by omega
      obtain rfl : j = 1 + q := by omega
      obtain ⟨L, capL, rfl⟩ := xl.slice (by omega)
      go_upto_region 10 with fail
      replace xl := xl.below (Below.refl _ _).drew
      go_region_held3 (fun wq => (wq.cell? ⟨Wb, 0, none⟩ = some (.int .i64 40) ∧ wq.cell? ⟨Wb, 1, none⟩ = some (.int .i64 3) ∧ wq.cell? ⟨Wb, 2, none⟩ = some (.int .i64 1) ∧ wq.cell? ⟨Wb, 3, none⟩ = some (.int .i64 1) ∧ wq.cell? ⟨Wb, 4, none⟩ = some (.int .i64 9) ∧ wq.cell? ⟨Wb, 5, none⟩ = some (.int .i64 0)) ∧ wq.cell? ⟨Wb, 7, none⟩ = some (.pointer (some ⟨B, 0, none⟩))) (with_reducible exact xl.z.cf)
        ((go_at_call 7; with_reducible refine (mkTurn _ _).mono ?_; rintro e w3 ⟨Pt, ct, rfl, hPt, hTu, hPl, bb⟩; have hlt0 := xl.z.hb; replace xl := xl.below bb))
      go_upto_region 12 with fail
      have xw0 : Xw w (w3.alloc (.cells #[.int .u64 1] 38)) lo Wb M G B base (1 + q) g0 (.slice (some ⟨L, 0, none⟩) (1 + q) capL) (.slice (some ⟨w3.heap.size, 0, none⟩) 1 1) ps sf Pt ⟨0, 0, 0, 0⟩ [1] :=
        ⟨xl.below (alloc_below _ _), ⟨ct, ((alloc_below w3 _).block Pt (lt_of_block hPt)).trans hPt, hTu, tu0_ok⟩, by omega, ⟨rfl, .inr ⟨w3.heap.size, 1, _, rfl, by have := xl.z.hb; omega, heap_alloc_new _ _, Nat.le_refl _, by unfold maxLen; omega, rfl, rfl⟩⟩⟩
      have xg := xg0
      have xs : ∀ j, j < 1 + q → Xs1 [1] 0 (sf j) := fun j hj => by rw [hsf j hj]; exact xs0
      have hT0 : g0.T = 0 := rfl
      clear xl hPt hTu hPl bb hlt0 hsf
      generalize g0 = gA at *
      generalize w3.alloc (.cells #[.int .u64 1] 38) = w4 at *
      generalize Value.slice (some ⟨w3.heap.size, 0, none⟩) 1 1 = vc0 at *
      go_wp2
      go_loopw [9, 10, 11] (fun tt cc ii wr => ∃ (i : Nat) (g : Gs) (sf : Nat → Sm) (Pt : Nat) (t : Tu) (cl : List Nat), i ≤ 100 ∧ ii = .int .i64 i ∧ tt = .pointer (some ⟨Pt, 0, none⟩) ∧ Xg g cl i ∧ cl.length = i + 1 ∧ (∀ j, j < 1 + q → Xs1 cl i (sf j)) ∧ (0 ≤ g.T ∧ g.T ≤ i) ∧ Xw w wr lo Wb M G B base (1 + q) g (.slice (some ⟨L, 0, none⟩) (1 + q) capL) cc ps sf Pt t cl) (fun _ _ ii _ => 100 - (intOf ii).toNat)
      case atStart => exact ⟨0, gA, sf, Pt, ⟨0, 0, 0, 0⟩, [1], by omega, rfl, rfl, xg, rfl, xs, by rw [hT0]; omega, xw0⟩
      case round =>
        clear xw0 xg xs hT0
        obtain ⟨i, g, sf, Pt, t, cl, hi, rfl, rfl, xg, hcl, xs, hT, xw⟩ := hrel
        obtain ⟨N, hN⟩ : ∃ N : Nat, Hid (208 = N) := ⟨208, rfl⟩
        have hNl : ∀ g cl i, Xg g cl i → g.X.length = N := fun g cl i x => x.len.trans hN.out
        have hNb : 36 < N ∧ N < 1000 := by have := hN.out; omega
        have cW : ∀ wr g sf Pt t cl vc, Xw w wr lo Wb M G B base (1 + q) g (.slice (some ⟨L, 0, none⟩) (1 + q) capL) vc ps sf Pt t cl → g.X.length = N → Calls Tryz.prog 8 #[.pointer (some ⟨M, 0, none⟩)] wr fun e w' => ∃ R, e = .returned (.slice (some ⟨R, 0, none⟩) N N) ∧ Mm.IsWords w' R g.X ∧ wr.heap.size ≤ R ∧ Below wr.heap.size wr w' := fun wr g sf Pt t cl vc x hx => wordsX x.l.z.t.gw.mem hx (by omega)
        by_cases hil : i < len
        · have hilI : (i : Int) < (len : Int) := by omega
          by_cases hi1 : i < 100
          · have hi1I : (i : Int) < 100 := by omega
            obtain ⟨b, off, rfl, hbl, q0⟩ := hZ i hil
            have c7 : wr.cell? ⟨Wb, 7, none⟩ = some (.pointer (some ⟨B, 0, none⟩)) := xw.l.z.cellW rfl
            obtain ⟨⟨z0, cz⟩, fz⟩ := xw.l.z.cellB
            have xw1 := xw.time (now := (i : Int)) (by omega)
            go_upto_region 16 with fail
            clear c7 cz fz xw
            generalize wr.setCell ⟨B, 0, none⟩ (.int .i64 (i : Nat)) = w4 at *
            obtain ⟨g1, hg1⟩ : ∃ g1 : Gs, ({ g with k := { g.k with now := (i : Int) } } : Gs) = g1 := ⟨_, rfl⟩
            rw [hg1] at xw1
            have xg1 : Xg g1 cl i := by rw [← hg1]; exact ⟨xg.len, xg.clk, xg.b6, xg.st⟩
            have hnow : g1.k.now = (i : Int) := by rw [← hg1]
            have hT1 : 0 ≤ g1.T ∧ g1.T ≤ i := by rw [← hg1]; exact hT
            clear hg1 xg hT
            obtain ⟨x0, hx0⟩ : ∃ x0, g1.X.getD 0 0 = x0 := ⟨_, rfl⟩
            have c8 := cW _ _ _ _ _ _ _ xw1 (hNl _ _ _ xg1)
            have x6 : w4.cell? ⟨Wb, 6, none⟩ = some (.pointer (some ⟨M, 0, none⟩)) := xw1.l.z.cellW rfl
            have h63 : cl.length + 1 ≤ maxLen := by unfold maxLen; omega
            have hby : (cl.length + 1) * 8 ≤ 140737488355328 := by omega
            have hN0 : (0 : Int) < (N : Int) := by omega
            have hwl := hNl _ _ _ xg1
            replace hwl : Hid (g1.X.length = N) := hwl
            replace hx0 : Hid (g1.X.getD 0 0 = x0) := hx0
            replace hcl : Hid (cl.length = i + 1) := hcl
            go_upto_region 17 with (first
              | (go_at_call 8; with_reducible refine c8.mono ?_; rintro e w5 ⟨R, rfl, hR, hRl, b5⟩; have r0 : w5.cell? ⟨R, 0, none⟩ = some (.int .u64 (x0 : Nat)) := (by rw [← hx0.out]; exact words_at hR (by have := hwl.out; omega)); have xw2 := xw1.below b5)
              | (at_builtin; refine wpList_append_lies _ rfl _ _ _ rfl base 38 i38 _ 1 8 Tryz.underlying39 hi38 hz38 hy38 hx38 rfl (by decide) _ cl.length (cl.map fun x => .int .u64 (x : Nat)) rfl (xw2.oc.alloc _) ⟨w5.heap.size, 0, none⟩ 1 1 [.int .u64 (x0 : Nat)] rfl rfl (World.news_of_block (cs := #[.int .u64 (x0 : Nat)]) (t := 38) (fr := (0, 0)) (heap_alloc_new _ _)) (by simp [Value.oneCell']) (by omega) h63 hby (by have := xw2.l.z.hb; simp; omega) (w5.heap.size + 1) (by simp) ?_; intro r1 cap1 w6 hown hgrow _ _; have xw3 := xw2.push hgrow hown))
            clear hown hgrow r0 xw2 xw1 x6 c8 hR hRl b5
            have q1 : w6.cell? ⟨b, off + i, none⟩ = some (.int .i64 (Z i)) := (xw3.l.z.bel.cell (p := ⟨b, off + i, none⟩) hbl).trans q0
            have hx0' := hx0.out
            have hcl' := hcl.out
            have quiet : Xg g1 (cl ++ [x0]) (i + 1) := xg1.app hcl' x0 g1.k.now g1.T
            have xsq : ∀ m, m < 1 + q → Xs1 (cl ++ [x0]) (i + 1) (sf m) := fun m hm => (xs m hm).app hcl' x0
            have hcl2 : (cl ++ [x0]).length = i + 1 + 1 := by simp [hcl']
            by_cases h0 : 0 ≤ Z i
            · obtain ⟨x, hx⟩ : ∃ x : Nat, Z i = (x : Int) := ⟨(Z i).toNat, by omega⟩
              rw [hx] at q1 q0
              clear h0 hx
              by_cases hxk : x < 1 + q
              · have hxI : (x : Int) < 1 + (q : Int) := by omega
                have st := xs_step xg1 hcl' (xs x hxk) hnow
                rw [hx0'] at st
                have stT := (sf x).step_T g1
                have c9 : ∀ wr, Xw w wr lo Wb M G B base (1 + q) g1 (.slice (some ⟨L, 0, none⟩) (1 + q) capL) (.slice (some ⟨r1, 0, none⟩) (cl.length + 1) cap1) ps sf Pt t (cl ++ [x0]) → _ := fun wr y => stamp_one (wr := wr) (j := x) y hxk (by omega)
                have hS : ∀ wr g sf, Xw w wr lo Wb M G B base (1 + q) g (.slice (some ⟨L, 0, none⟩) (1 + q) capL) (.slice (some ⟨r1, 0, none⟩) (cl.length + 1) cap1) ps sf Pt t (cl ++ [x0]) → (wr.cell? ⟨b, off + i, none⟩ = some (.int .i64 (x : Nat)) ∧ wr.cell? ⟨L, x, none⟩ = some (.pointer (some ⟨ps x, 0, none⟩))) ∧ wr.cell? ⟨Wb, 6, none⟩ = some (.pointer (some ⟨M, 0, none⟩)) := fun wr g sf y => ⟨⟨(y.l.z.bel.cell (p := ⟨b, off + i, none⟩) hbl).trans q0, row_at y.l.own (ptrs_get ps hxk)⟩, y.l.z.cellW rfl⟩
                generalize (sf x).step g1 = sg at *
                obtain ⟨s', g'⟩ := sg
                simp only at st stT c9
                generalize decide (s'.pc = 3) = bd at c9
                replace st : Hid _ := st
                replace quiet : Hid _ := quiet
                clear hx0' hcl' hcl2
                go_upto_region 18 with fail
                have xw := xw3.drew
                clear xw3 q1
                go_region_held3 (fun wr => (wr.cell? ⟨b, off + i, none⟩ = some (.int .i64 (x : Nat)) ∧ wr.cell? ⟨L, x, none⟩ = some (.pointer (some ⟨ps x, 0, none⟩))) ∧ wr.cell? ⟨Wb, 6, none⟩ = some (.pointer (some ⟨M, 0, none⟩))) (first | with_reducible exact hS _ _ _ xw4 | with_reducible exact hS _ _ _ xw)
                  ((go_at_call 9; with_reducible refine (c9 _ xw).mono ?_; rintro e w7 ⟨rfl, xw4⟩))
                clear xw
                go_wp2
                go_roundw
                case rel => exact ⟨i + 1, g', fun m => if m = x then s' else sf m, Pt, t, cl ++ [x0], by omega, by go_num, rfl, st.out.1, by simp [hcl.out], fun m hm => by
                  by_cases e : m = x
                  · simp only [if_pos e]; exact st.out.2
                  · simp only [if_neg e]; exact xsq m hm, by omega, xw4⟩
                case measure => simp [intOf]; omega
              · have hxI : ¬ (x : Int) < 1 + (q : Int) := by omega
                by_cases hxe : x = 1 + q
                · subst hxe
                  have st := xt_step (t := t) xg1 hcl' (by omega)
                  rw [hx0'] at st
                  have stT := t.step_T g1
                  have c10 := turn_x xw3 (by omega)
                  generalize t.step g1 = tg at *
                  obtain ⟨t', g'⟩ := tg
                  simp only at st stT c10
                  generalize decide (t'.pc = 2) = bd at c10
                  replace st : Hid _ := st
                  replace quiet : Hid _ := quiet
                  clear hx0' hcl' hcl2
                  have x6 : w6.cell? ⟨Wb, 6, none⟩ = some (.pointer (some ⟨M, 0, none⟩)) := xw3.l.z.cellW rfl
                  cases bd
                  · go_wp2_with (go_at_call 10; with_reducible refine c10.mono ?_; rintro e w7 ⟨rfl, xw4⟩)
                    go_roundw
                    case rel => exact ⟨i + 1, g', sf, Pt, t', cl ++ [x0], by omega, by go_num, rfl, st.out, by simp [hcl.out], xsq, by omega, xw4⟩
                    case measure => simp [intOf]; omega
                  · go_upto_region 20 with (go_at_call 10; with_reducible refine c10.mono ?_; rintro e w7 ⟨rfl, xw4⟩)
                    have xw := xw4.drew
                    clear xw4 xw3 c10 x6 q1
                    go_region_held3 (fun wq => (wq.cell? ⟨Wb, 0, none⟩ = some (.int .i64 40) ∧ wq.cell? ⟨Wb, 1, none⟩ = some (.int .i64 3) ∧ wq.cell? ⟨Wb, 2, none⟩ = some (.int .i64 1) ∧ wq.cell? ⟨Wb, 3, none⟩ = some (.int .i64 1) ∧ wq.cell? ⟨Wb, 4, none⟩ = some (.int .i64 9) ∧ wq.cell? ⟨Wb, 5, none⟩ = some (.int .i64 0)) ∧ wq.cell? ⟨Wb, 7, none⟩ = some (.pointer (some ⟨B, 0, none⟩))) (with_reducible exact xw.l.z.cf)
                      ((go_at_call 7; with_reducible refine (mkTurn _ _).mono ?_; rintro e w8 ⟨P2, c2, rfl, hP2, hTu2, hPl2, bb2⟩; have hlt2 := xw.l.z.hb; replace xw := xw.below bb2))
                    have xw5 := xw.turned hP2 hTu2 (by omega)
                    clear xw hP2 hTu2 bb2
                    go_wp2
                    go_roundw
                    case rel => exact ⟨i + 1, g', sf, P2, _, cl ++ [x0], by omega, by go_num, rfl, st.out, by simp [hcl.out], xsq, by omega, xw5⟩
                    case measure => simp [intOf]; omega
                · have hne : ¬ (x : Int) = 1 + (q : Int) := by omega
                  have hnb : ((x : Int) == 1 + (q : Int)) = false := by simp; omega
                  replace quiet : Hid _ := quiet
                  clear hx0' hcl' hcl2
                  go_wp2
                  go_roundw
                  case rel => exact ⟨i + 1, g1, sf, Pt, t, cl ++ [x0], by omega, by go_num, rfl, quiet.out, by simp [hcl.out], xsq, by omega, xw3⟩
                  case measure => simp [intOf]; omega
            · have hne : ¬ Z i = 1 + (q : Int) := by omega
              have hnb : (Z i == 1 + (q : Int)) = false := by simp; omega
              replace quiet : Hid _ := quiet
              clear hx0' hcl' hcl2
              go_wp2
              go_roundw
              case rel => exact ⟨i + 1, g1, sf, Pt, t, cl ++ [x0], by omega, by go_num, rfl, quiet.out, by simp [hcl.out], xsq, by omega, xw3⟩
              case measure => simp [intOf]; omega
          · have hi1I : ¬ (i : Int) < 100 := by omega
            have hlen : 0 < cl.length := by omega
            replace hcl : Hid (cl.length = i + 1) := hcl
            obtain ⟨C, capC, rfl⟩ := xw.slice hlen
            obtain ⟨sv, hsv⟩ : ∃ sv, g.X.getD (KC.bd 5 1) 0 = sv := ⟨_, rfl⟩
            obtain ⟨pl, hpl⟩ : ∃ pl, KC.bd 5 1 = pl := ⟨_, rfl⟩
            have hplN : (pl : Int) < (N : Int) := by rw [← hpl, KC_bd]; omega
            have cAt : ∀ w, Calls Tryz.prog 11 #[.agg #[.int .i64 40, .int .i64 3, .int .i64 1, .int .i64 1, .int .i64 9, .int .i64 0], .string ⟨#[98, 111, 100, 121]⟩, .int .i64 5, .int .i64 1] w fun e w' => e = .returned (.int .i64 (pl : Nat)) ∧ Below w.heap.size w w' := fun w => by rw [← hpl]; exact at_body (s := 5) (i := 1) (by omega) (by omega) w
            have hwl : Hid (g.X.length = N) := hNl _ _ _ xg
            have rd : ∀ (wz : World) (R : Nat), Mm.IsWords wz R g.X → wz.cell? ⟨R, pl, none⟩ = some (.int .u64 (sv : Nat)) := fun wz R h => by rw [← hsv, ← hpl]; exact words_at h (by rw [hwl.out, KC_bd]; omega)
            have rdB : ∀ (wz wz' : World) (R : Nat), Mm.IsWords wz R g.X → Below wz.heap.size wz wz' → Mm.IsWords wz' R g.X := fun wz wz' R h b => (b.block R (lt_of_block (show wz.heap[R]? = _ from h))).trans h
            have hst := xg.st
            rw [hsv] at hst
            have b6 := xg.b6
            replace hpl : Hid (KC.bd 5 1 = pl) := hpl
            have hS : ∀ wr g sf, Xw w wr lo Wb M G B base (1 + q) g (.slice (some ⟨L, 0, none⟩) (1 + q) capL) (.slice (some ⟨C, 0, none⟩) cl.length capC) ps sf Pt t cl → (wr.cell? ⟨Wb, 0, none⟩ = some (.int .i64 40) ∧ wr.cell? ⟨Wb, 1, none⟩ = some (.int .i64 3) ∧ wr.cell? ⟨Wb, 2, none⟩ = some (.int .i64 1) ∧ wr.cell? ⟨Wb, 3, none⟩ = some (.int .i64 1) ∧ wr.cell? ⟨Wb, 4, none⟩ = some (.int .i64 9) ∧ wr.cell? ⟨Wb, 5, none⟩ = some (.int .i64 0)) ∧ wr.cell? ⟨Wb, 6, none⟩ = some (.pointer (some ⟨M, 0, none⟩)) := fun wr g sf y => ⟨y.l.z.cf.1, y.l.z.cellW rfl⟩
            have cBo : ∀ wr g sf r, Xw w wr lo Wb M G B base (1 + q) g (.slice (some ⟨L, 0, none⟩) (1 + q) capL) (.slice (some ⟨C, 0, none⟩) cl.length capC) ps sf Pt t cl → (Lit.int .i64 r).wf = true → Calls Tryz.prog 12 #[.pointer (some ⟨B, 0, none⟩), .int .i64 r] wr fun e w' => e = .returned (.int .i64 (optI (g.k.born r))) ∧ wr = w' := fun wr g sf r y hr => by
              obtain ⟨_, _, x⟩ := y.l.z.t.gw.book
              exact born_any x r hr
            replace hsv : Hid (g.X.getD (KC.bd 5 1) 0 = sv) := hsv
            replace hst : Hid _ := hst
            replace b6 : Hid _ := b6
            go_upto_region 21 with fail
            replace xw := xw.drew
            have hS0 := hS _ _ _ xw
            refine wp_region_held_drew (S := fun wq => (wq.cell? ⟨Wb, 0, none⟩ = some (.int .i64 40) ∧ wq.cell? ⟨Wb, 1, none⟩ = some (.int .i64 3) ∧ wq.cell? ⟨Wb, 2, none⟩ = some (.int .i64 1) ∧ wq.cell? ⟨Wb, 3, none⟩ = some (.int .i64 1) ∧ wq.cell? ⟨Wb, 4, none⟩ = some (.int .i64 9) ∧ wq.cell? ⟨Wb, 5, none⟩ = some (.int .i64 0)) ∧ wq.cell? ⟨Wb, 6, none⟩ = some (.pointer (some ⟨M, 0, none⟩))) (by kernel_rfl) hS0 (fun hS1 => ?_)
            refine wpAnyH_take (i := 0) (oi := { dst := some 127, op := Go.Op.move (Go.Operand.tmp 5), type := 24, pos := "law.go:376", after := #[], guard := none }) (v := .pointer (some ⟨Wb, 0, none⟩)) rfl (by kernel_rfl) (by kernel_rfl) (by kernel_rfl) (fun _ _ _ h => h) (Or.inl ⟨by rfl, fun w hSw => by (try dsimp only at hSw); go_simp⟩) hS1 ?_
            simp only [Act.put, List.setIfInBounds_toArray, List.set_cons_zero, List.set_cons_succ]
            refine wpAnyH_take (i := 1) (oi := { dst := some 128, op := Go.Op.nilCheck (Go.Operand.tmp 127), type := 0, pos := "law.go:376", after := #[{ on := 0, ground := Go.Ground.data }], guard := none }) (v := .pointer (some ⟨Wb, 0, none⟩)) rfl (by kernel_rfl) (by kernel_rfl) (by kernel_rfl) (fun _ _ _ h => h) (Or.inl ⟨by rfl, fun w hSw => by (try dsimp only at hSw); go_simp⟩) hS1 ?_
            simp only [Act.put, List.setIfInBounds_toArray, List.set_cons_zero, List.set_cons_succ]
            refine wpAnyH_take (i := 2) (oi := { dst := some 129, op := Go.Op.fieldAddr 35 (Go.Operand.tmp 128) 1, type := 0, pos := "law.go:376", after := #[{ on := 1, ground := Go.Ground.data }], guard := none }) (v := .pointer (some ⟨Wb, 6, none⟩)) rfl (by kernel_rfl) (by kernel_rfl) (by kernel_rfl) (fun _ _ _ h => h) (Or.inl ⟨by rfl, fun w hSw => by (try dsimp only at hSw); go_simp⟩) hS1 ?_
            simp only [Act.put, List.setIfInBounds_toArray, List.set_cons_zero, List.set_cons_succ]
            refine wpAnyH_take (i := 3) (oi := { dst := some 130, op := Go.Op.load 31 (Go.Operand.tmp 129), type := 31, pos := "law.go:376", after := #[{ on := 2, ground := Go.Ground.data }], guard := none }) (v := .pointer (some ⟨M, 0, none⟩)) rfl (by kernel_rfl) (by kernel_rfl) (by kernel_rfl) (fun _ _ _ h => h) (Or.inl ⟨by rfl, fun w hSw => by (try dsimp only at hSw); go_simp⟩) hS1 ?_
            simp only [Act.put, List.setIfInBounds_toArray, List.set_cons_zero, List.set_cons_succ]
            refine wpAnyH_take (i := 5) (oi := { dst := some 132, op := Go.Op.move (Go.Operand.tmp 5), type := 24, pos := "law.go:376", after := #[], guard := none }) (v := .pointer (some ⟨Wb, 0, none⟩)) rfl (by kernel_rfl) (by kernel_rfl) (by kernel_rfl) (fun _ _ _ h => h) (Or.inl ⟨by rfl, fun w hSw => by (try dsimp only at hSw); go_simp⟩) hS1 ?_
            simp only [Act.put, List.setIfInBounds_toArray, List.set_cons_zero, List.set_cons_succ]
            refine wpAnyH_take (i := 6) (oi := { dst := some 133, op := Go.Op.nilCheck (Go.Operand.tmp 132), type := 0, pos := "law.go:376", after := #[{ on := 5, ground := Go.Ground.data }], guard := none }) (v := .pointer (some ⟨Wb, 0, none⟩)) rfl (by kernel_rfl) (by kernel_rfl) (by kernel_rfl) (fun _ _ _ h => h) (Or.inl ⟨by rfl, fun w hSw => by (try dsimp only at hSw); go_simp⟩) hS1 ?_
            simp only [Act.put, List.setIfInBounds_toArray, List.set_cons_zero, List.set_cons_succ]
            refine wpAnyH_take (i := 7) (oi := { dst := some 134, op := Go.Op.fieldAddr 35 (Go.Operand.tmp 133) 0, type := 0, pos := "law.go:376", after := #[{ on := 6, ground := Go.Ground.data }], guard := none }) (v := .pointer (some ⟨Wb, 0, none⟩)) rfl (by kernel_rfl) (by kernel_rfl) (by kernel_rfl) (fun _ _ _ h => h) (Or.inl ⟨by rfl, fun w hSw => by (try dsimp only at hSw); go_simp⟩) hS1 ?_
            simp only [Act.put, List.setIfInBounds_toArray, List.set_cons_zero, List.set_cons_succ]
            refine wpAnyH_take (i := 8) (oi := { dst := some 135, op := Go.Op.load 30 (Go.Operand.tmp 134), type := 30, pos := "law.go:376", after := #[{ on := 7, ground := Go.Ground.data }], guard := none }) (v := .agg #[.int .i64 40, .int .i64 3, .int .i64 1, .int .i64 1, .int .i64 9, .int .i64 0]) rfl (by kernel_rfl) (by kernel_rfl) (by kernel_rfl) (fun _ _ _ h => h) (Or.inl ⟨by rfl, fun w hSw => by (try dsimp only at hSw); go_simp⟩) hS1 ?_
            simp only [Act.put, List.setIfInBounds_toArray, List.set_cons_zero, List.set_cons_succ]
            refine wpAnyH_ready (rs := [4]) (by kernel_rfl) (by simp) (AllReadyH.cons (o := { dst := some 131, op := Go.Op.call { callee := Go.Callee.value (Go.Operand.func 8), args := #[Go.Operand.tmp 130], argTypes := #[31] }, type := 39, pos := "law.go:376", after := #[{ on := 3, ground := Go.Ground.data }], guard := none }) rfl (fun K hK => ?_) AllReadyH.nil)
            go_simp
            go_at_call 8
            with_reducible refine (cW _ _ _ _ _ _ _ xw hwl.out).mono ?_
            rintro e w7 ⟨R, rfl, hR, hRl, b7⟩
            (try simp only [])

            have xw7 := xw.below b7
            refine hK.out _ _ (hS _ _ _ xw7) (fun hS1 => ?_)
            (try simp only [Act.put, List.setIfInBounds_toArray, List.set_cons_zero, List.set_cons_succ])
            clear xw hS0 hK K
            refine wpAnyH_ready (rs := [9]) (by kernel_rfl) (by simp) (AllReadyH.cons (o := { dst := some 136, op := Go.Op.call { callee := Go.Callee.value (Go.Operand.func 11), args := #[Go.Operand.tmp 135, Go.Operand.const (Go.Value.string { data := #[98, 111, 100, 121] }), Go.Operand.const (Go.Value.int Go.IntKind.i64 5), Go.Operand.const (Go.Value.int Go.IntKind.i64 1)], argTypes := #[30, 9, 3, 3] }, type := 3, pos := "law.go:376", after := #[{ on := 8, ground := Go.Ground.data }, { on := 4, ground := Go.Ground.chain }], guard := none }) rfl (fun K hK => ?_) AllReadyH.nil)
            go_simp
            go_at_call 11
            with_reducible refine (cAt _).mono ?_
            rintro e w8 ⟨rfl, b8⟩
            (try simp only [])

            have xw8 := xw7.below b8
            have r0 := rd _ _ (rdB _ _ _ hR b8)
            refine hK.out _ _ (hS _ _ _ xw8) (fun hS1 => ?_)
            (try simp only [Act.put, List.setIfInBounds_toArray, List.set_cons_zero, List.set_cons_succ])
            clear hR b8 hRl xw7 hK K
            refine wpAnyH_take (i := 10) (oi := { dst := some 137, op := Go.Op.indexAddr 39 (Go.Operand.tmp 131) (Go.Operand.tmp 136), type := 0, pos := "law.go:376", after := #[{ on := 4, ground := Go.Ground.data }, { on := 9, ground := Go.Ground.data }], guard := none }) (v := .pointer (some ⟨R, pl, none⟩)) rfl (by kernel_rfl) (by kernel_rfl) (by kernel_rfl) (fun _ _ _ h => h) (Or.inl ⟨by rfl, fun w hSw => by (try dsimp only at hSw); go_simp⟩) hS1 ?_
            simp only [Act.put, List.setIfInBounds_toArray, List.set_cons_zero, List.set_cons_succ]
            refine wpAnyH_ready (rs := [11]) (by kernel_rfl) (by simp) (AllReadyH.cons (o := { dst := some 138, op := Go.Op.load 38 (Go.Operand.tmp 137), type := 38, pos := "law.go:376", after := #[{ on := 10, ground := Go.Ground.data }], guard := none }) rfl (fun K hK => ?_) AllReadyH.nil)
            go_simp
            refine hK.out _ _ (hS _ _ _ xw8) (fun hS1 => ?_)
            (try simp only [Act.put, List.setIfInBounds_toArray, List.set_cons_zero, List.set_cons_succ])
            clear hK K
            refine wpAnyH_take (i := 12) (oi := { dst := some 12, op := Go.Op.assign (Go.Operand.tmp 138), type := 38, pos := "law.go:376", after := #[{ on := 11, ground := Go.Ground.data }, { on := 9, ground := Go.Ground.chain }, { on := 0, ground := Go.Ground.phase }, { on := 1, ground := Go.Ground.phase }, { on := 2, ground := Go.Ground.phase }, { on := 3, ground := Go.Ground.phase }, { on := 4, ground := Go.Ground.phase }, { on := 5, ground := Go.Ground.phase }, { on := 6, ground := Go.Ground.phase }, { on := 7, ground := Go.Ground.phase }, { on := 8, ground := Go.Ground.phase }, { on := 9, ground := Go.Ground.phase }, { on := 10, ground := Go.Ground.phase }, { on := 11, ground := Go.Ground.phase }], guard := none }) (v := .int .u64 (sv : Nat)) rfl (by kernel_rfl) (by kernel_rfl) (by kernel_rfl) (fun _ _ _ h => h) (Or.inl ⟨by rfl, fun w hSw => by (try dsimp only at hSw); go_simp⟩) hS1 ?_
            simp only [Act.put, List.setIfInBounds_toArray, List.set_cons_zero, List.set_cons_succ]
            refine wpAnyH_done (by kernel_rfl) ?_ _
            have c7 : w8.cell? ⟨Wb, 7, none⟩ = some (.pointer (some ⟨B, 0, none⟩)) := xw8.l.z.cellW rfl
            have cb := cBo _ _ _ 5 xw8 (by decide)
            have bw8 := xw8.l.z.bel
            clear hS1 r0
            rcases hst.out with ⟨h0, hb⟩ | ⟨s, p, hs, hz, hb, hp, hcp⟩
            · clear hst
              rw [hb] at cb
              have cb6 := cBo _ _ _ 6 xw8 (by decide)
              rw [b6.out] at cb6
              replace cb : Calls Tryz.prog 12 #[.pointer (some ⟨B, 0, none⟩), .int .i64 5] w8 fun e w' => e = .returned (.int .i64 (-1)) ∧ w8 = w' := cb
              replace cb6 : Calls Tryz.prog 12 #[.pointer (some ⟨B, 0, none⟩), .int .i64 6] w8 fun e w' => e = .returned (.int .i64 (-1)) ∧ w8 = w' := cb6
              subst h0
              clear hb b6 cBo cW rd rdB cAt xs
              go_wp2_with (first
                | (go_at_call 12; with_reducible refine cb.mono ?_; rintro e w9 ⟨rfl, rfl⟩)
                | (go_at_call 12; with_reducible refine cb6.mono ?_; rintro e w9 ⟨rfl, rfl⟩)
                | (go_at_call 4; with_reducible refine (cA _ bw8).mono ?_; rintro e w9 ⟨rfl, b9⟩))
              go_ret
              exact ⟨rfl, seq_below bw8 b9⟩
            · clear hst b6
              subst hs
              rw [hb] at cb
              replace cb : Calls Tryz.prog 12 #[.pointer (some ⟨B, 0, none⟩), .int .i64 5] w8 fun e w' => e = .returned (.int .i64 (p : Nat)) ∧ w8 = w' := cb
              have hzI : ¬ (sv : Int) = 0 := by omega
              have hzb : ((sv : Int) == 0) = false := by simp; omega
              go_upto_region 25 with (go_at_call 12; with_reducible refine cb.mono ?_; rintro e w9 ⟨rfl, rfl⟩)
              clear cb c7 bw8
              have hSj : ∀ wr g sf j, j < 1 + q → Xw w wr lo Wb M G B base (1 + q) g (.slice (some ⟨L, 0, none⟩) (1 + q) capL) (.slice (some ⟨C, 0, none⟩) cl.length capC) ps sf Pt t cl → wr.cell? ⟨L, j, none⟩ = some (.pointer (some ⟨ps j, 0, none⟩)) ∧ wr.cell? ⟨Wb, 6, none⟩ = some (.pointer (some ⟨M, 0, none⟩)) := fun wr g sf j hj y => ⟨row_at y.l.own (ptrs_get ps hj), y.l.z.cellW rfl⟩
              go_wp2
              go_loopw [14] (fun ii wr => ∃ (j : Nat) (g' : Gs) (sf' : Nat → Sm), j ≤ 1 + q ∧ ii = .int .i64 j ∧ (g'.X = g.X ∧ g'.k = g.k) ∧ (∀ m, m < 1 + q → (sf' m).place = KC.bd 5 1) ∧ (0 ≤ g'.T ∧ g'.T ≤ i + 3 * j) ∧ Xw w wr lo Wb M G B base (1 + q) g' (.slice (some ⟨L, 0, none⟩) (1 + q) capL) (.slice (some ⟨C, 0, none⟩) cl.length capC) ps sf' Pt t cl) (fun ii _ => 1 + q - (intOf ii).toNat)
              case atStart => exact ⟨0, g, sf, by omega, rfl, ⟨rfl, rfl⟩, fun m hm => (xs m hm).2.1, by omega, xw8⟩
              case round =>
                clear xw8
                obtain ⟨j, g', sf', hj, rfl, hg', hpl', hT', xw9⟩ := hrel
                by_cases hjq : j < 1 + q
                · have hjI : (j : Int) < 1 + (q : Int) := by omega
                  go_upto_region 28 with fail
                  go_wp2
                  go_loopw [15] (fun ii wr => ∃ (m : Nat) (g2 : Gs) (sf2 : Nat → Sm), m ≤ 3 ∧ ii = .int .i64 m ∧ (g2.X = g.X ∧ g2.k = g.k) ∧ (∀ m, m < 1 + q → (sf2 m).place = KC.bd 5 1) ∧ (0 ≤ g2.T ∧ g2.T ≤ i + 3 * j + m) ∧ Xw w wr lo Wb M G B base (1 + q) g2 (.slice (some ⟨L, 0, none⟩) (1 + q) capL) (.slice (some ⟨C, 0, none⟩) cl.length capC) ps sf2 Pt t cl) (fun ii _ => 3 - (intOf ii).toNat)
                  case atStart => exact ⟨0, g', sf', by omega, rfl, hg', hpl', by omega, xw9⟩
                  case round =>
                    clear xw9 hT' hpl' hg'
                    obtain ⟨m, g2, sf2, hm, rfl, hg2, hpl2, hT2, xw2⟩ := hrel
                    by_cases hm3 : m < 3
                    · have hmI : (m : Int) < 3 := by omega
                      have ss := xs_still (hpl2 j hjq) (by rw [hg2.1, hsv.out]; exact hz)
                      have stT := (sf2 j).step_T g2
                      have c9 : ∀ wr, Xw w wr lo Wb M G B base (1 + q) g2 (.slice (some ⟨L, 0, none⟩) (1 + q) capL) (.slice (some ⟨C, 0, none⟩) cl.length capC) ps sf2 Pt t cl → _ := fun wr y => stamp_one (wr := wr) (j := j) y hjq (by omega)
                      have hSk := hSj
                      generalize (sf2 j).step g2 = sg at *
                      obtain ⟨s', g3⟩ := sg
                      simp only at ss stT c9
                      generalize decide (s'.pc = 3) = bd at c9
                      replace ss : Hid _ := ss
                      replace hg2 : Hid _ := hg2
                      go_upto_region 31 with fail
                      have xw := xw2.drew
                      clear xw2
                      go_region_held3 (fun wr => wr.cell? ⟨L, j, none⟩ = some (.pointer (some ⟨ps j, 0, none⟩)) ∧ wr.cell? ⟨Wb, 6, none⟩ = some (.pointer (some ⟨M, 0, none⟩))) (first | with_reducible exact hSj _ _ _ _ hjq xw4 | with_reducible exact hSj _ _ _ _ hjq xw)
                        ((go_at_call 9; with_reducible refine (c9 _ xw).mono ?_; rintro e w7 ⟨rfl, xw4⟩))
                      clear xw
                      go_wp2
                      go_roundw
                      case rel => exact ⟨m + 1, g3, fun k => if k = j then s' else sf2 k, by omega, by go_num, ⟨ss.out.1.trans hg2.out.1, ss.out.2.1.trans hg2.out.2⟩, fun k hk => by
                        by_cases e : k = j
                        · simp only [if_pos e]; exact ss.out.2.2
                        · simp only [if_neg e]; exact hpl2 k hk, by omega, xw4⟩
                      case measure => simp [intOf]; omega
                    · have hmI : ¬ (m : Int) < 3 := by omega
                      go_wp2
                      go_roundw
                      case rel => exact ⟨j + 1, g2, sf2, by omega, by go_num, hg2, hpl2, by omega, xw2⟩
                      case measure => simp [intOf]; omega
                · have hjI : ¬ (j : Int) < 1 + (q : Int) := by omega
                  have hwl' : g'.X.length = N := by rw [hg'.1]; exact hwl.out
                  have hbk : g'.k.born 5 = some (p : Int) := by rw [hg'.2]; exact hb
                  have hX := hg'.1
                  obtain ⟨p1, hp1⟩ : ∃ p1, p1 = p + 1 := ⟨_, rfl⟩
                  have hwp : IntKind.i64.wrap ((p : Int) + 1) = (p1 : Int) := by rw [IntKind.wrap_i64]; omega
                  have hp0 : (0 : Int) ≤ (p : Int) := by omega
                  have hp1I : (p1 : Int) < (cl.length : Int) := by have := hcl.out; omega
                  have hS2 : ∀ wr g sf, Xw w wr lo Wb M G B base (1 + q) g (.slice (some ⟨L, 0, none⟩) (1 + q) capL) (.slice (some ⟨C, 0, none⟩) cl.length capC) ps sf Pt t cl → ((wr.cell? ⟨Wb, 0, none⟩ = some (.int .i64 40) ∧ wr.cell? ⟨Wb, 1, none⟩ = some (.int .i64 3) ∧ wr.cell? ⟨Wb, 2, none⟩ = some (.int .i64 1) ∧ wr.cell? ⟨Wb, 3, none⟩ = some (.int .i64 1) ∧ wr.cell? ⟨Wb, 4, none⟩ = some (.int .i64 9) ∧ wr.cell? ⟨Wb, 5, none⟩ = some (.int .i64 0)) ∧ wr.cell? ⟨Wb, 6, none⟩ = some (.pointer (some ⟨M, 0, none⟩))) ∧ wr.cell? ⟨Wb, 7, none⟩ = some (.pointer (some ⟨B, 0, none⟩)) ∧ wr.cell? ⟨C, p1, none⟩ = some (.int .u64 (sv : Nat)) := fun wr g sf y => ⟨hS _ _ _ y, y.l.z.cellW rfl, row_at y.oc (by
                    rw [← hcp, hp1, List.getElem?_map, List.getElem?_eq_getElem (show p + 1 < cl.length by omega), List.getD_eq_getElem?_getD, List.getElem?_eq_getElem (show p + 1 < cl.length by omega)]
                    rfl)⟩
                  have cb := fun wr (y : Xw w wr lo Wb M G B base (1 + q) g' (.slice (some ⟨L, 0, none⟩) (1 + q) capL) (.slice (some ⟨C, 0, none⟩) cl.length capC) ps sf' Pt t cl) => cBo _ _ _ 5 y (by decide)
                  rw [hbk] at cb
                  replace cb : ∀ wr, Xw w wr lo Wb M G B base (1 + q) g' (.slice (some ⟨L, 0, none⟩) (1 + q) capL) (.slice (some ⟨C, 0, none⟩) cl.length capC) ps sf' Pt t cl → Calls Tryz.prog 12 #[.pointer (some ⟨B, 0, none⟩), .int .i64 5] wr fun e w' => e = .returned (.int .i64 (p : Nat)) ∧ wr = w' := cb
                  replace hX : Hid _ := hX
                  replace hwl' : Hid _ := hwl'
                  replace hp1 : Hid _ := hp1
                  clear hg' hbk hb hpl' hSj hzb
                  go_upto_region 32 with fail
                  replace xw9 := xw9.drew
                  have hS0 := hS2 _ _ _ xw9
                  refine wp_region_held_drew (S := fun wq => ((wq.cell? ⟨Wb, 0, none⟩ = some (.int .i64 40) ∧ wq.cell? ⟨Wb, 1, none⟩ = some (.int .i64 3) ∧ wq.cell? ⟨Wb, 2, none⟩ = some (.int .i64 1) ∧ wq.cell? ⟨Wb, 3, none⟩ = some (.int .i64 1) ∧ wq.cell? ⟨Wb, 4, none⟩ = some (.int .i64 9) ∧ wq.cell? ⟨Wb, 5, none⟩ = some (.int .i64 0)) ∧ wq.cell? ⟨Wb, 6, none⟩ = some (.pointer (some ⟨M, 0, none⟩))) ∧ wq.cell? ⟨Wb, 7, none⟩ = some (.pointer (some ⟨B, 0, none⟩)) ∧ wq.cell? ⟨C, p1, none⟩ = some (.int .u64 (sv : Nat))) (by kernel_rfl) hS0 (fun hS1 => ?_)
                  refine wpAnyH_take (i := 0) (oi := { dst := some 177, op := Go.Op.move (Go.Operand.tmp 13), type := 3, pos := "law.go:386", after := #[], guard := none }) (v := .int .i64 (p : Nat)) rfl (by kernel_rfl) (by kernel_rfl) (by kernel_rfl) (fun _ _ _ h => h) (Or.inl ⟨by rfl, fun w hSw => by (try dsimp only at hSw); go_simp⟩) hS1 ?_
                  simp only [Act.put, List.setIfInBounds_toArray, List.set_cons_zero, List.set_cons_succ]
                  refine wpAnyH_take (i := 1) (oi := { dst := some 178, op := Go.Op.binOp Go.BinOp.geq 3 (Go.Operand.tmp 177) (Go.Operand.const (Go.Value.int Go.IntKind.i64 0)) 3, type := 4, pos := "law.go:386", after := #[{ on := 0, ground := Go.Ground.data }], guard := none }) (v := .bool true) rfl (by kernel_rfl) (by kernel_rfl) (by kernel_rfl) (fun _ _ _ h => h) (Or.inl ⟨by rfl, fun w hSw => by (try dsimp only at hSw); go_simp⟩) hS1 ?_
                  simp only [Act.put, List.setIfInBounds_toArray, List.set_cons_zero, List.set_cons_succ]
                  refine wpAnyH_take (i := 2) (oi := { dst := some 179, op := Go.Op.move (Go.Operand.tmp 178), type := 4, pos := "law.go:386", after := #[{ on := 1, ground := Go.Ground.data }], guard := none }) (v := .bool true) rfl (by kernel_rfl) (by kernel_rfl) (by kernel_rfl) (fun _ _ _ h => h) (Or.inl ⟨by rfl, fun w hSw => by (try dsimp only at hSw); go_simp⟩) hS1 ?_
                  simp only [Act.put, List.setIfInBounds_toArray, List.set_cons_zero, List.set_cons_succ]
                  refine wpAnyH_take (i := 3) (oi := { dst := some 180, op := Go.Op.move (Go.Operand.tmp 13), type := 3, pos := "law.go:386", after := #[{ on := 2, ground := Go.Ground.guard }], guard := some (2, true) }) (v := .int .i64 (p : Nat)) rfl (by kernel_rfl) (by kernel_rfl) (by kernel_rfl) (fun _ _ _ h => h) (Or.inl ⟨by rfl, fun w hSw => by (try dsimp only at hSw); go_simp⟩) hS1 ?_
                  simp only [Act.put, List.setIfInBounds_toArray, List.set_cons_zero, List.set_cons_succ]
                  refine wpAnyH_take (i := 4) (oi := { dst := some 181, op := Go.Op.binOp Go.BinOp.add 3 (Go.Operand.tmp 180) (Go.Operand.const (Go.Value.int Go.IntKind.i64 1)) 3, type := 3, pos := "law.go:386", after := #[{ on := 3, ground := Go.Ground.data }, { on := 2, ground := Go.Ground.guard }], guard := some (2, true) }) (v := .int .i64 (p1 : Nat)) rfl (by kernel_rfl) (by kernel_rfl) (by kernel_rfl) (fun _ _ _ h => h) (Or.inl ⟨by rfl, fun w hSw => by (try dsimp only at hSw); go_simp⟩) hS1 ?_
                  simp only [Act.put, List.setIfInBounds_toArray, List.set_cons_zero, List.set_cons_succ]
                  refine wpAnyH_take (i := 5) (oi := { dst := some 182, op := Go.Op.move (Go.Operand.tmp 10), type := 39, pos := "law.go:386", after := #[{ on := 2, ground := Go.Ground.guard }], guard := some (2, true) }) (v := .slice (some ⟨C, 0, none⟩) cl.length capC) rfl (by kernel_rfl) (by kernel_rfl) (by kernel_rfl) (fun _ _ _ h => h) (Or.inl ⟨by rfl, fun w hSw => by (try dsimp only at hSw); go_simp⟩) hS1 ?_
                  simp only [Act.put, List.setIfInBounds_toArray, List.set_cons_zero, List.set_cons_succ]
                  refine wpAnyH_take (i := 6) (oi := { dst := some 183, op := Go.Op.call { callee := Go.Callee.builtin Go.Builtin.len, args := #[Go.Operand.tmp 182], argTypes := #[39] }, type := 3, pos := "law.go:386", after := #[{ on := 5, ground := Go.Ground.data }, { on := 2, ground := Go.Ground.guard }], guard := some (2, true) }) (v := .int .i64 (cl.length : Nat)) rfl (by kernel_rfl) (by kernel_rfl) (by kernel_rfl) (fun _ _ _ h => h) (Or.inl ⟨by rfl, fun w hSw => by (try dsimp only at hSw); go_simp⟩) hS1 ?_
                  simp only [Act.put, List.setIfInBounds_toArray, List.set_cons_zero, List.set_cons_succ]
                  refine wpAnyH_take (i := 7) (oi := { dst := some 184, op := Go.Op.binOp Go.BinOp.lss 3 (Go.Operand.tmp 181) (Go.Operand.tmp 183) 3, type := 4, pos := "law.go:386", after := #[{ on := 4, ground := Go.Ground.data }, { on := 6, ground := Go.Ground.data }, { on := 2, ground := Go.Ground.guard }], guard := some (2, true) }) (v := .bool true) rfl (by kernel_rfl) (by kernel_rfl) (by kernel_rfl) (fun _ _ _ h => h) (Or.inl ⟨by rfl, fun w hSw => by (try dsimp only at hSw); go_simp⟩) hS1 ?_
                  simp only [Act.put, List.setIfInBounds_toArray, List.set_cons_zero, List.set_cons_succ]
                  refine wpAnyH_take (i := 8) (oi := { dst := some 185, op := Go.Op.pick (Go.Operand.tmp 179) (Go.Operand.tmp 184) (Go.Operand.const (Go.Value.bool false)), type := 4, pos := "law.go:386", after := #[{ on := 2, ground := Go.Ground.data }, { on := 7, ground := Go.Ground.data }], guard := none }) (v := .bool true) rfl (by kernel_rfl) (by kernel_rfl) (by kernel_rfl) (fun _ _ _ h => h) (Or.inl ⟨by rfl, fun w hSw => by (try dsimp only at hSw); go_simp⟩) hS1 ?_
                  simp only [Act.put, List.setIfInBounds_toArray, List.set_cons_zero, List.set_cons_succ]
                  refine wpAnyH_take (i := 9) (oi := { dst := some 186, op := Go.Op.move (Go.Operand.tmp 185), type := 4, pos := "law.go:386", after := #[{ on := 8, ground := Go.Ground.data }, { on := 2, ground := Go.Ground.chain }], guard := none }) (v := .bool true) rfl (by kernel_rfl) (by kernel_rfl) (by kernel_rfl) (fun _ _ _ h => h) (Or.inl ⟨by rfl, fun w hSw => by (try dsimp only at hSw); go_simp⟩) hS1 ?_
                  simp only [Act.put, List.setIfInBounds_toArray, List.set_cons_zero, List.set_cons_succ]
                  refine wpAnyH_take (i := 10) (oi := { dst := some 187, op := Go.Op.move (Go.Operand.tmp 10), type := 39, pos := "law.go:386", after := #[{ on := 9, ground := Go.Ground.guard }], guard := some (9, true) }) (v := .slice (some ⟨C, 0, none⟩) cl.length capC) rfl (by kernel_rfl) (by kernel_rfl) (by kernel_rfl) (fun _ _ _ h => h) (Or.inl ⟨by rfl, fun w hSw => by (try dsimp only at hSw); go_simp⟩) hS1 ?_
                  simp only [Act.put, List.setIfInBounds_toArray, List.set_cons_zero, List.set_cons_succ]
                  refine wpAnyH_take (i := 11) (oi := { dst := some 188, op := Go.Op.move (Go.Operand.tmp 13), type := 3, pos := "law.go:386", after := #[{ on := 9, ground := Go.Ground.guard }], guard := some (9, true) }) (v := .int .i64 (p : Nat)) rfl (by kernel_rfl) (by kernel_rfl) (by kernel_rfl) (fun _ _ _ h => h) (Or.inl ⟨by rfl, fun w hSw => by (try dsimp only at hSw); go_simp⟩) hS1 ?_
                  simp only [Act.put, List.setIfInBounds_toArray, List.set_cons_zero, List.set_cons_succ]
                  refine wpAnyH_take (i := 12) (oi := { dst := some 189, op := Go.Op.binOp Go.BinOp.add 3 (Go.Operand.tmp 188) (Go.Operand.const (Go.Value.int Go.IntKind.i64 1)) 3, type := 3, pos := "law.go:386", after := #[{ on := 11, ground := Go.Ground.data }, { on := 9, ground := Go.Ground.guard }], guard := some (9, true) }) (v := .int .i64 (p1 : Nat)) rfl (by kernel_rfl) (by kernel_rfl) (by kernel_rfl) (fun _ _ _ h => h) (Or.inl ⟨by rfl, fun w hSw => by (try dsimp only at hSw); go_simp⟩) hS1 ?_
                  simp only [Act.put, List.setIfInBounds_toArray, List.set_cons_zero, List.set_cons_succ]
                  refine wpAnyH_take (i := 13) (oi := { dst := some 190, op := Go.Op.indexAddr 39 (Go.Operand.tmp 187) (Go.Operand.tmp 189), type := 0, pos := "law.go:386", after := #[{ on := 10, ground := Go.Ground.data }, { on := 12, ground := Go.Ground.data }, { on := 9, ground := Go.Ground.guard }], guard := some (9, true) }) (v := .pointer (some ⟨C, p1, none⟩)) rfl (by kernel_rfl) (by kernel_rfl) (by kernel_rfl) (fun _ _ _ h => h) (Or.inl ⟨by rfl, fun w hSw => by (try dsimp only at hSw); go_simp⟩) hS1 ?_
                  simp only [Act.put, List.setIfInBounds_toArray, List.set_cons_zero, List.set_cons_succ]
                  refine wpAnyH_take (i := 14) (oi := { dst := some 191, op := Go.Op.load 38 (Go.Operand.tmp 190), type := 38, pos := "law.go:386", after := #[{ on := 13, ground := Go.Ground.data }, { on := 9, ground := Go.Ground.guard }], guard := some (9, true) }) (v := .int .u64 (sv : Nat)) rfl (by kernel_rfl) (by kernel_rfl) (by kernel_rfl) (fun _ _ _ h => h) (Or.inl ⟨by rfl, fun w hSw => by (try dsimp only at hSw); go_simp⟩) hS1 ?_
                  simp only [Act.put, List.setIfInBounds_toArray, List.set_cons_zero, List.set_cons_succ]
                  refine wpAnyH_take (i := 15) (oi := { dst := some 192, op := Go.Op.move (Go.Operand.tmp 12), type := 38, pos := "law.go:386", after := #[{ on := 9, ground := Go.Ground.guard }], guard := some (9, true) }) (v := .int .u64 (sv : Nat)) rfl (by kernel_rfl) (by kernel_rfl) (by kernel_rfl) (fun _ _ _ h => h) (Or.inl ⟨by rfl, fun w hSw => by (try dsimp only at hSw); go_simp⟩) hS1 ?_
                  simp only [Act.put, List.setIfInBounds_toArray, List.set_cons_zero, List.set_cons_succ]
                  refine wpAnyH_take (i := 16) (oi := { dst := some 193, op := Go.Op.binOp Go.BinOp.eql 38 (Go.Operand.tmp 191) (Go.Operand.tmp 192) 38, type := 4, pos := "law.go:386", after := #[{ on := 14, ground := Go.Ground.data }, { on := 15, ground := Go.Ground.data }, { on := 9, ground := Go.Ground.guard }], guard := some (9, true) }) (v := .bool true) rfl (by kernel_rfl) (by kernel_rfl) (by kernel_rfl) (fun _ _ _ h => h) (Or.inl ⟨by rfl, fun w hSw => by (try dsimp only at hSw); go_simp⟩) hS1 ?_
                  simp only [Act.put, List.setIfInBounds_toArray, List.set_cons_zero, List.set_cons_succ]
                  refine wpAnyH_take (i := 17) (oi := { dst := some 194, op := Go.Op.pick (Go.Operand.tmp 186) (Go.Operand.tmp 193) (Go.Operand.const (Go.Value.bool false)), type := 4, pos := "law.go:386", after := #[{ on := 9, ground := Go.Ground.data }, { on := 16, ground := Go.Ground.data }], guard := none }) (v := .bool true) rfl (by kernel_rfl) (by kernel_rfl) (by kernel_rfl) (fun _ _ _ h => h) (Or.inl ⟨by rfl, fun w hSw => by (try dsimp only at hSw); go_simp⟩) hS1 ?_
                  simp only [Act.put, List.setIfInBounds_toArray, List.set_cons_zero, List.set_cons_succ]
                  refine wpAnyH_take (i := 18) (oi := { dst := some 195, op := Go.Op.move (Go.Operand.tmp 194), type := 4, pos := "law.go:386", after := #[{ on := 17, ground := Go.Ground.data }, { on := 9, ground := Go.Ground.chain }], guard := none }) (v := .bool true) rfl (by kernel_rfl) (by kernel_rfl) (by kernel_rfl) (fun _ _ _ h => h) (Or.inl ⟨by rfl, fun w hSw => by (try dsimp only at hSw); go_simp⟩) hS1 ?_
                  simp only [Act.put, List.setIfInBounds_toArray, List.set_cons_zero, List.set_cons_succ]
                  refine wpAnyH_take (i := 19) (oi := { dst := some 196, op := Go.Op.move (Go.Operand.tmp 5), type := 24, pos := "law.go:386", after := #[{ on := 18, ground := Go.Ground.guard }], guard := some (18, true) }) (v := .pointer (some ⟨Wb, 0, none⟩)) rfl (by kernel_rfl) (by kernel_rfl) (by kernel_rfl) (fun _ _ _ h => h) (Or.inl ⟨by rfl, fun w hSw => by (try dsimp only at hSw); go_simp⟩) hS1 ?_
                  simp only [Act.put, List.setIfInBounds_toArray, List.set_cons_zero, List.set_cons_succ]
                  refine wpAnyH_take (i := 20) (oi := { dst := some 197, op := Go.Op.nilCheck (Go.Operand.tmp 196), type := 0, pos := "law.go:386", after := #[{ on := 19, ground := Go.Ground.data }, { on := 18, ground := Go.Ground.guard }], guard := some (18, true) }) (v := .pointer (some ⟨Wb, 0, none⟩)) rfl (by kernel_rfl) (by kernel_rfl) (by kernel_rfl) (fun _ _ _ h => h) (Or.inl ⟨by rfl, fun w hSw => by (try dsimp only at hSw); go_simp⟩) hS1 ?_
                  simp only [Act.put, List.setIfInBounds_toArray, List.set_cons_zero, List.set_cons_succ]
                  refine wpAnyH_take (i := 21) (oi := { dst := some 198, op := Go.Op.fieldAddr 35 (Go.Operand.tmp 197) 1, type := 0, pos := "law.go:386", after := #[{ on := 20, ground := Go.Ground.data }, { on := 18, ground := Go.Ground.guard }], guard := some (18, true) }) (v := .pointer (some ⟨Wb, 6, none⟩)) rfl (by kernel_rfl) (by kernel_rfl) (by kernel_rfl) (fun _ _ _ h => h) (Or.inl ⟨by rfl, fun w hSw => by (try dsimp only at hSw); go_simp⟩) hS1 ?_
                  simp only [Act.put, List.setIfInBounds_toArray, List.set_cons_zero, List.set_cons_succ]
                  refine wpAnyH_take (i := 22) (oi := { dst := some 199, op := Go.Op.load 31 (Go.Operand.tmp 198), type := 31, pos := "law.go:386", after := #[{ on := 21, ground := Go.Ground.data }, { on := 18, ground := Go.Ground.guard }], guard := some (18, true) }) (v := .pointer (some ⟨M, 0, none⟩)) rfl (by kernel_rfl) (by kernel_rfl) (by kernel_rfl) (fun _ _ _ h => h) (Or.inl ⟨by rfl, fun w hSw => by (try dsimp only at hSw); go_simp⟩) hS1 ?_
                  simp only [Act.put, List.setIfInBounds_toArray, List.set_cons_zero, List.set_cons_succ]
                  refine wpAnyH_take (i := 24) (oi := { dst := some 201, op := Go.Op.move (Go.Operand.tmp 5), type := 24, pos := "law.go:386", after := #[{ on := 18, ground := Go.Ground.guard }], guard := some (18, true) }) (v := .pointer (some ⟨Wb, 0, none⟩)) rfl (by kernel_rfl) (by kernel_rfl) (by kernel_rfl) (fun _ _ _ h => h) (Or.inl ⟨by rfl, fun w hSw => by (try dsimp only at hSw); go_simp⟩) hS1 ?_
                  simp only [Act.put, List.setIfInBounds_toArray, List.set_cons_zero, List.set_cons_succ]
                  refine wpAnyH_take (i := 25) (oi := { dst := some 202, op := Go.Op.nilCheck (Go.Operand.tmp 201), type := 0, pos := "law.go:386", after := #[{ on := 24, ground := Go.Ground.data }, { on := 18, ground := Go.Ground.guard }], guard := some (18, true) }) (v := .pointer (some ⟨Wb, 0, none⟩)) rfl (by kernel_rfl) (by kernel_rfl) (by kernel_rfl) (fun _ _ _ h => h) (Or.inl ⟨by rfl, fun w hSw => by (try dsimp only at hSw); go_simp⟩) hS1 ?_
                  simp only [Act.put, List.setIfInBounds_toArray, List.set_cons_zero, List.set_cons_succ]
                  refine wpAnyH_take (i := 26) (oi := { dst := some 203, op := Go.Op.fieldAddr 35 (Go.Operand.tmp 202) 0, type := 0, pos := "law.go:386", after := #[{ on := 25, ground := Go.Ground.data }, { on := 18, ground := Go.Ground.guard }], guard := some (18, true) }) (v := .pointer (some ⟨Wb, 0, none⟩)) rfl (by kernel_rfl) (by kernel_rfl) (by kernel_rfl) (fun _ _ _ h => h) (Or.inl ⟨by rfl, fun w hSw => by (try dsimp only at hSw); go_simp⟩) hS1 ?_
                  simp only [Act.put, List.setIfInBounds_toArray, List.set_cons_zero, List.set_cons_succ]
                  refine wpAnyH_take (i := 27) (oi := { dst := some 204, op := Go.Op.load 30 (Go.Operand.tmp 203), type := 30, pos := "law.go:386", after := #[{ on := 26, ground := Go.Ground.data }, { on := 18, ground := Go.Ground.guard }], guard := some (18, true) }) (v := .agg #[.int .i64 40, .int .i64 3, .int .i64 1, .int .i64 1, .int .i64 9, .int .i64 0]) rfl (by kernel_rfl) (by kernel_rfl) (by kernel_rfl) (fun _ _ _ h => h) (Or.inl ⟨by rfl, fun w hSw => by (try dsimp only at hSw); go_simp⟩) hS1 ?_
                  simp only [Act.put, List.setIfInBounds_toArray, List.set_cons_zero, List.set_cons_succ]
                  refine wpAnyH_take (i := 31) (oi := { dst := some 208, op := Go.Op.move (Go.Operand.tmp 12), type := 38, pos := "law.go:386", after := #[{ on := 18, ground := Go.Ground.guard }], guard := some (18, true) }) (v := .int .u64 (sv : Nat)) rfl (by kernel_rfl) (by kernel_rfl) (by kernel_rfl) (fun _ _ _ h => h) (Or.inl ⟨by rfl, fun w hSw => by (try dsimp only at hSw); go_simp⟩) hS1 ?_
                  simp only [Act.put, List.setIfInBounds_toArray, List.set_cons_zero, List.set_cons_succ]
                  refine wpAnyH_ready (rs := [23]) (by kernel_rfl) (by simp) (AllReadyH.cons (o := { dst := some 200, op := Go.Op.call { callee := Go.Callee.value (Go.Operand.func 8), args := #[Go.Operand.tmp 199], argTypes := #[31] }, type := 39, pos := "law.go:386", after := #[{ on := 22, ground := Go.Ground.data }, { on := 18, ground := Go.Ground.chain }, { on := 18, ground := Go.Ground.guard }], guard := some (18, true) }) rfl (fun K hK => ?_) AllReadyH.nil)
                  go_simp
                  go_at_call 8
                  with_reducible refine (cW _ _ _ _ _ _ _ xw9 hwl'.out).mono ?_
                  rintro e w7 ⟨R, rfl, hR, hRl, b7⟩
                  (try simp only [])
                  have xw7 := xw9.below b7
                  refine hK.out _ _ (hS2 _ _ _ xw7) (fun hS1 => ?_)
                  (try simp only [Act.put, List.setIfInBounds_toArray, List.set_cons_zero, List.set_cons_succ])
                  clear xw9 hS0 hK K
                  refine wpAnyH_ready (rs := [28]) (by kernel_rfl) (by simp) (AllReadyH.cons (o := { dst := some 205, op := Go.Op.call { callee := Go.Callee.value (Go.Operand.func 11), args := #[Go.Operand.tmp 204, Go.Operand.const (Go.Value.string { data := #[98, 111, 100, 121] }), Go.Operand.const (Go.Value.int Go.IntKind.i64 5), Go.Operand.const (Go.Value.int Go.IntKind.i64 1)], argTypes := #[30, 9, 3, 3] }, type := 3, pos := "law.go:386", after := #[{ on := 27, ground := Go.Ground.data }, { on := 23, ground := Go.Ground.chain }, { on := 18, ground := Go.Ground.guard }], guard := some (18, true) }) rfl (fun K hK => ?_) AllReadyH.nil)
                  go_simp
                  go_at_call 11
                  with_reducible refine (cAt _).mono ?_
                  rintro e w8 ⟨rfl, b8⟩
                  (try simp only [])
                  have xw8 := xw7.below b8
                  rw [hX.out] at hR
                  have r0 := rd _ _ (rdB _ _ _ hR b8)
                  refine hK.out _ _ (hS2 _ _ _ xw8) (fun hS1 => ?_)
                  (try simp only [Act.put, List.setIfInBounds_toArray, List.set_cons_zero, List.set_cons_succ])
                  clear hR b8 hRl xw7 hK K
                  refine wpAnyH_take (i := 29) (oi := { dst := some 206, op := Go.Op.indexAddr 39 (Go.Operand.tmp 200) (Go.Operand.tmp 205), type := 0, pos := "law.go:386", after := #[{ on := 23, ground := Go.Ground.data }, { on := 28, ground := Go.Ground.data }, { on := 18, ground := Go.Ground.guard }], guard := some (18, true) }) (v := .pointer (some ⟨R, pl, none⟩)) rfl (by kernel_rfl) (by kernel_rfl) (by kernel_rfl) (fun _ _ _ h => h) (Or.inl ⟨by rfl, fun w hSw => by (try dsimp only at hSw); go_simp⟩) hS1 ?_
                  simp only [Act.put, List.setIfInBounds_toArray, List.set_cons_zero, List.set_cons_succ]
                  refine wpAnyH_ready (rs := [30]) (by kernel_rfl) (by simp) (AllReadyH.cons (o := { dst := some 207, op := Go.Op.load 38 (Go.Operand.tmp 206), type := 38, pos := "law.go:386", after := #[{ on := 29, ground := Go.Ground.data }, { on := 18, ground := Go.Ground.guard }], guard := some (18, true) }) rfl (fun K hK => ?_) AllReadyH.nil)
                  go_simp
                  refine hK.out _ _ (hS2 _ _ _ xw8) (fun hS1 => ?_)
                  (try simp only [Act.put, List.setIfInBounds_toArray, List.set_cons_zero, List.set_cons_succ])
                  clear hK K r0
                  refine wpAnyH_take (i := 32) (oi := { dst := some 209, op := Go.Op.binOp Go.BinOp.eql 38 (Go.Operand.tmp 207) (Go.Operand.tmp 208) 38, type := 4, pos := "law.go:386", after := #[{ on := 30, ground := Go.Ground.data }, { on := 31, ground := Go.Ground.data }, { on := 18, ground := Go.Ground.guard }], guard := some (18, true) }) (v := .bool true) rfl (by kernel_rfl) (by kernel_rfl) (by kernel_rfl) (fun _ _ _ h => h) (Or.inl ⟨by rfl, fun w hSw => by (try dsimp only at hSw); go_simp⟩) hS1 ?_
                  simp only [Act.put, List.setIfInBounds_toArray, List.set_cons_zero, List.set_cons_succ]
                  refine wpAnyH_take (i := 33) (oi := { dst := some 210, op := Go.Op.pick (Go.Operand.tmp 195) (Go.Operand.tmp 209) (Go.Operand.const (Go.Value.bool false)), type := 4, pos := "law.go:386", after := #[{ on := 18, ground := Go.Ground.data }, { on := 32, ground := Go.Ground.data }], guard := none }) (v := .bool true) rfl (by kernel_rfl) (by kernel_rfl) (by kernel_rfl) (fun _ _ _ h => h) (Or.inl ⟨by rfl, fun w hSw => by (try dsimp only at hSw); go_simp⟩) hS1 ?_
                  simp only [Act.put, List.setIfInBounds_toArray, List.set_cons_zero, List.set_cons_succ]
                  refine wpAnyH_take (i := 34) (oi := { dst := some 211, op := Go.Op.move (Go.Operand.tmp 210), type := 4, pos := "law.go:386", after := #[{ on := 33, ground := Go.Ground.data }, { on := 28, ground := Go.Ground.chain }], guard := none }) (v := .bool true) rfl (by kernel_rfl) (by kernel_rfl) (by kernel_rfl) (fun _ _ _ h => h) (Or.inl ⟨by rfl, fun w hSw => by (try dsimp only at hSw); go_simp⟩) hS1 ?_
                  simp only [Act.put, List.setIfInBounds_toArray, List.set_cons_zero, List.set_cons_succ]
                  refine wpAnyH_take (i := 35) (oi := { dst := some 212, op := Go.Op.move (Go.Operand.tmp 5), type := 24, pos := "law.go:386", after := #[{ on := 34, ground := Go.Ground.guard }], guard := some (34, true) }) (v := .pointer (some ⟨Wb, 0, none⟩)) rfl (by kernel_rfl) (by kernel_rfl) (by kernel_rfl) (fun _ _ _ h => h) (Or.inl ⟨by rfl, fun w hSw => by (try dsimp only at hSw); go_simp⟩) hS1 ?_
                  simp only [Act.put, List.setIfInBounds_toArray, List.set_cons_zero, List.set_cons_succ]
                  refine wpAnyH_take (i := 36) (oi := { dst := some 213, op := Go.Op.nilCheck (Go.Operand.tmp 212), type := 0, pos := "law.go:386", after := #[{ on := 35, ground := Go.Ground.data }, { on := 34, ground := Go.Ground.guard }], guard := some (34, true) }) (v := .pointer (some ⟨Wb, 0, none⟩)) rfl (by kernel_rfl) (by kernel_rfl) (by kernel_rfl) (fun _ _ _ h => h) (Or.inl ⟨by rfl, fun w hSw => by (try dsimp only at hSw); go_simp⟩) hS1 ?_
                  simp only [Act.put, List.setIfInBounds_toArray, List.set_cons_zero, List.set_cons_succ]
                  refine wpAnyH_take (i := 37) (oi := { dst := some 214, op := Go.Op.fieldAddr 35 (Go.Operand.tmp 213) 2, type := 0, pos := "law.go:386", after := #[{ on := 36, ground := Go.Ground.data }, { on := 34, ground := Go.Ground.guard }], guard := some (34, true) }) (v := .pointer (some ⟨Wb, 7, none⟩)) rfl (by kernel_rfl) (by kernel_rfl) (by kernel_rfl) (fun _ _ _ h => h) (Or.inl ⟨by rfl, fun w hSw => by (try dsimp only at hSw); go_simp⟩) hS1 ?_
                  simp only [Act.put, List.setIfInBounds_toArray, List.set_cons_zero, List.set_cons_succ]
                  refine wpAnyH_take (i := 38) (oi := { dst := some 215, op := Go.Op.load 32 (Go.Operand.tmp 214), type := 32, pos := "law.go:386", after := #[{ on := 37, ground := Go.Ground.data }, { on := 34, ground := Go.Ground.guard }], guard := some (34, true) }) (v := .pointer (some ⟨B, 0, none⟩)) rfl (by kernel_rfl) (by kernel_rfl) (by kernel_rfl) (fun _ _ _ h => h) (Or.inl ⟨by rfl, fun w hSw => by (try dsimp only at hSw); go_simp⟩) hS1 ?_
                  simp only [Act.put, List.setIfInBounds_toArray, List.set_cons_zero, List.set_cons_succ]
                  refine wpAnyH_take (i := 40) (oi := { dst := some 217, op := Go.Op.move (Go.Operand.tmp 13), type := 3, pos := "law.go:386", after := #[{ on := 34, ground := Go.Ground.guard }], guard := some (34, true) }) (v := .int .i64 (p : Nat)) rfl (by kernel_rfl) (by kernel_rfl) (by kernel_rfl) (fun _ _ _ h => h) (Or.inl ⟨by rfl, fun w hSw => by (try dsimp only at hSw); go_simp⟩) hS1 ?_
                  simp only [Act.put, List.setIfInBounds_toArray, List.set_cons_zero, List.set_cons_succ]
                  refine wpAnyH_ready (rs := [39]) (by kernel_rfl) (by simp) (AllReadyH.cons (o := { dst := some 216, op := Go.Op.call { callee := Go.Callee.value (Go.Operand.func 12), args := #[Go.Operand.tmp 215, Go.Operand.const (Go.Value.int Go.IntKind.i64 5)], argTypes := #[32, 3] }, type := 3, pos := "law.go:386", after := #[{ on := 38, ground := Go.Ground.data }, { on := 34, ground := Go.Ground.chain }, { on := 34, ground := Go.Ground.guard }], guard := some (34, true) }) rfl (fun K hK => ?_) AllReadyH.nil)
                  go_simp
                  go_at_call 12
                  with_reducible refine (cb _ xw8).mono ?_
                  rintro e w9 ⟨rfl, rfl⟩
                  (try simp only [])
                  refine hK.out _ _ (hS2 _ _ _ xw8) (fun hS1 => ?_)
                  (try simp only [Act.put, List.setIfInBounds_toArray, List.set_cons_zero, List.set_cons_succ])
                  clear hK K
                  refine wpAnyH_take (i := 41) (oi := { dst := some 218, op := Go.Op.binOp Go.BinOp.eql 3 (Go.Operand.tmp 216) (Go.Operand.tmp 217) 3, type := 4, pos := "law.go:386", after := #[{ on := 39, ground := Go.Ground.data }, { on := 40, ground := Go.Ground.data }, { on := 34, ground := Go.Ground.guard }], guard := some (34, true) }) (v := .bool true) rfl (by kernel_rfl) (by kernel_rfl) (by kernel_rfl) (fun _ _ _ h => h) (Or.inl ⟨by rfl, fun w hSw => by (try dsimp only at hSw); go_simp⟩) hS1 ?_
                  simp only [Act.put, List.setIfInBounds_toArray, List.set_cons_zero, List.set_cons_succ]
                  refine wpAnyH_take (i := 42) (oi := { dst := some 219, op := Go.Op.pick (Go.Operand.tmp 211) (Go.Operand.tmp 218) (Go.Operand.const (Go.Value.bool false)), type := 4, pos := "law.go:386", after := #[{ on := 34, ground := Go.Ground.data }, { on := 41, ground := Go.Ground.data }], guard := none }) (v := .bool true) rfl (by kernel_rfl) (by kernel_rfl) (by kernel_rfl) (fun _ _ _ h => h) (Or.inl ⟨by rfl, fun w hSw => by (try dsimp only at hSw); go_simp⟩) hS1 ?_
                  simp only [Act.put, List.setIfInBounds_toArray, List.set_cons_zero, List.set_cons_succ]
                  refine wpAnyH_take (i := 43) (oi := { dst := some 220, op := Go.Op.move (Go.Operand.tmp 219), type := 4, pos := "law.go:386", after := #[{ on := 42, ground := Go.Ground.data }, { on := 39, ground := Go.Ground.chain }], guard := none }) (v := .bool true) rfl (by kernel_rfl) (by kernel_rfl) (by kernel_rfl) (fun _ _ _ h => h) (Or.inl ⟨by rfl, fun w hSw => by (try dsimp only at hSw); go_simp⟩) hS1 ?_
                  simp only [Act.put, List.setIfInBounds_toArray, List.set_cons_zero, List.set_cons_succ]
                  have bw8 := xw8.l.z.bel
                  refine wpAnyH_ready (rs := [44]) (by kernel_rfl) (by simp) (AllReadyH.cons (o := { dst := some 221, op := Go.Op.call { callee := Go.Callee.value (Go.Operand.func 4), args := #[], argTypes := #[] }, type := 4, pos := "law.go:386", after := #[{ on := 43, ground := Go.Ground.chain }, { on := 43, ground := Go.Ground.guard }], guard := some (43, true) }) rfl (fun K hK => ?_) AllReadyH.nil)
                  go_simp
                  go_at_call 4
                  with_reducible refine (cA _ bw8).mono ?_
                  rintro e w9 ⟨rfl, b9⟩
                  (try simp only [])
                  refine hK.out _ _ (hS2 _ _ _ (xw8.below b9)) (fun hS1 => ?_)
                  (try simp only [Act.put, List.setIfInBounds_toArray, List.set_cons_zero, List.set_cons_succ])
                  clear hK K
                  refine wpAnyH_take (i := 45) (oi := { dst := some 222, op := Go.Op.pick (Go.Operand.tmp 220) (Go.Operand.tmp 221) (Go.Operand.const (Go.Value.bool false)), type := 4, pos := "law.go:386", after := #[{ on := 43, ground := Go.Ground.data }, { on := 44, ground := Go.Ground.data }], guard := none }) (v := .bool true) rfl (by kernel_rfl) (by kernel_rfl) (by kernel_rfl) (fun _ _ _ h => h) (Or.inl ⟨by rfl, fun w hSw => by (try dsimp only at hSw); go_simp⟩) hS1 ?_
                  simp only [Act.put, List.setIfInBounds_toArray, List.set_cons_zero, List.set_cons_succ]
                  refine wpAnyH_take (i := 46) (oi := { dst := some 4, op := Go.Op.assign (Go.Operand.tmp 222), type := 4, pos := "law.go:386", after := #[{ on := 45, ground := Go.Ground.data }, { on := 44, ground := Go.Ground.chain }, { on := 0, ground := Go.Ground.phase }, { on := 1, ground := Go.Ground.phase }, { on := 2, ground := Go.Ground.phase }, { on := 3, ground := Go.Ground.phase }, { on := 4, ground := Go.Ground.phase }, { on := 5, ground := Go.Ground.phase }, { on := 6, ground := Go.Ground.phase }, { on := 7, ground := Go.Ground.phase }, { on := 8, ground := Go.Ground.phase }, { on := 9, ground := Go.Ground.phase }, { on := 10, ground := Go.Ground.phase }, { on := 11, ground := Go.Ground.phase }, { on := 12, ground := Go.Ground.phase }, { on := 13, ground := Go.Ground.phase }, { on := 14, ground := Go.Ground.phase }, { on := 15, ground := Go.Ground.phase }, { on := 16, ground := Go.Ground.phase }, { on := 17, ground := Go.Ground.phase }, { on := 18, ground := Go.Ground.phase }, { on := 19, ground := Go.Ground.phase }, { on := 20, ground := Go.Ground.phase }, { on := 21, ground := Go.Ground.phase }, { on := 22, ground := Go.Ground.phase }, { on := 23, ground := Go.Ground.phase }, { on := 24, ground := Go.Ground.phase }, { on := 25, ground := Go.Ground.phase }, { on := 26, ground := Go.Ground.phase }, { on := 27, ground := Go.Ground.phase }, { on := 28, ground := Go.Ground.phase }, { on := 29, ground := Go.Ground.phase }, { on := 30, ground := Go.Ground.phase }, { on := 31, ground := Go.Ground.phase }, { on := 32, ground := Go.Ground.phase }, { on := 33, ground := Go.Ground.phase }, { on := 34, ground := Go.Ground.phase }, { on := 35, ground := Go.Ground.phase }, { on := 36, ground := Go.Ground.phase }, { on := 37, ground := Go.Ground.phase }, { on := 38, ground := Go.Ground.phase }, { on := 39, ground := Go.Ground.phase }, { on := 40, ground := Go.Ground.phase }, { on := 41, ground := Go.Ground.phase }, { on := 42, ground := Go.Ground.phase }, { on := 43, ground := Go.Ground.phase }, { on := 44, ground := Go.Ground.phase }, { on := 45, ground := Go.Ground.phase }], guard := none }) (v := .bool true) rfl (by kernel_rfl) (by kernel_rfl) (by kernel_rfl) (fun _ _ _ h => h) (Or.inl ⟨by rfl, fun w hSw => by (try dsimp only at hSw); go_simp⟩) hS1 ?_
                  simp only [Act.put, List.setIfInBounds_toArray, List.set_cons_zero, List.set_cons_succ]
                  refine wpAnyH_done (by kernel_rfl) ?_ _
                  go_wp2
                  go_ret
                  exact ⟨rfl, seq_below bw8 b9⟩
        · have hilI : ¬ (i : Int) < (len : Int) := by omega
          have hlen : 0 < cl.length := by omega
          replace hcl : Hid (cl.length = i + 1) := hcl
          obtain ⟨C, capC, rfl⟩ := xw.slice hlen
          obtain ⟨sv, hsv⟩ : ∃ sv, g.X.getD (KC.bd 5 1) 0 = sv := ⟨_, rfl⟩
          obtain ⟨pl, hpl⟩ : ∃ pl, KC.bd 5 1 = pl := ⟨_, rfl⟩
          have hplN : (pl : Int) < (N : Int) := by rw [← hpl, KC_bd]; omega
          have cAt : ∀ w, Calls Tryz.prog 11 #[.agg #[.int .i64 40, .int .i64 3, .int .i64 1, .int .i64 1, .int .i64 9, .int .i64 0], .string ⟨#[98, 111, 100, 121]⟩, .int .i64 5, .int .i64 1] w fun e w' => e = .returned (.int .i64 (pl : Nat)) ∧ Below w.heap.size w w' := fun w => by rw [← hpl]; exact at_body (s := 5) (i := 1) (by omega) (by omega) w
          have hwl : Hid (g.X.length = N) := hNl _ _ _ xg
          have rd : ∀ (wz : World) (R : Nat), Mm.IsWords wz R g.X → wz.cell? ⟨R, pl, none⟩ = some (.int .u64 (sv : Nat)) := fun wz R h => by rw [← hsv, ← hpl]; exact words_at h (by rw [hwl.out, KC_bd]; omega)
          have rdB : ∀ (wz wz' : World) (R : Nat), Mm.IsWords wz R g.X → Below wz.heap.size wz wz' → Mm.IsWords wz' R g.X := fun wz wz' R h b => (b.block R (lt_of_block (show wz.heap[R]? = _ from h))).trans h
          have hst := xg.st
          rw [hsv] at hst
          have b6 := xg.b6
          replace hpl : Hid (KC.bd 5 1 = pl) := hpl
          have hS : ∀ wr g sf, Xw w wr lo Wb M G B base (1 + q) g (.slice (some ⟨L, 0, none⟩) (1 + q) capL) (.slice (some ⟨C, 0, none⟩) cl.length capC) ps sf Pt t cl → (wr.cell? ⟨Wb, 0, none⟩ = some (.int .i64 40) ∧ wr.cell? ⟨Wb, 1, none⟩ = some (.int .i64 3) ∧ wr.cell? ⟨Wb, 2, none⟩ = some (.int .i64 1) ∧ wr.cell? ⟨Wb, 3, none⟩ = some (.int .i64 1) ∧ wr.cell? ⟨Wb, 4, none⟩ = some (.int .i64 9) ∧ wr.cell? ⟨Wb, 5, none⟩ = some (.int .i64 0)) ∧ wr.cell? ⟨Wb, 6, none⟩ = some (.pointer (some ⟨M, 0, none⟩)) := fun wr g sf y => ⟨y.l.z.cf.1, y.l.z.cellW rfl⟩
          have cBo : ∀ wr g sf r, Xw w wr lo Wb M G B base (1 + q) g (.slice (some ⟨L, 0, none⟩) (1 + q) capL) (.slice (some ⟨C, 0, none⟩) cl.length capC) ps sf Pt t cl → (Lit.int .i64 r).wf = true → Calls Tryz.prog 12 #[.pointer (some ⟨B, 0, none⟩), .int .i64 r] wr fun e w' => e = .returned (.int .i64 (optI (g.k.born r))) ∧ wr = w' := fun wr g sf r y hr => by
            obtain ⟨_, _, x⟩ := y.l.z.t.gw.book
            exact born_any x r hr
          replace hsv : Hid (g.X.getD (KC.bd 5 1) 0 = sv) := hsv
          replace hst : Hid _ := hst
          replace b6 : Hid _ := b6
          go_upto_region 21 with fail
          replace xw := xw.drew
          have hS0 := hS _ _ _ xw
          refine wp_region_held_drew (S := fun wq => (wq.cell? ⟨Wb, 0, none⟩ = some (.int .i64 40) ∧ wq.cell? ⟨Wb, 1, none⟩ = some (.int .i64 3) ∧ wq.cell? ⟨Wb, 2, none⟩ = some (.int .i64 1) ∧ wq.cell? ⟨Wb, 3, none⟩ = some (.int .i64 1) ∧ wq.cell? ⟨Wb, 4, none⟩ = some (.int .i64 9) ∧ wq.cell? ⟨Wb, 5, none⟩ = some (.int .i64 0)) ∧ wq.cell? ⟨Wb, 6, none⟩ = some (.pointer (some ⟨M, 0, none⟩))) (by kernel_rfl) hS0 (fun hS1 => ?_)
          refine wpAnyH_take (i := 0) (oi := { dst := some 127, op := Go.Op.move (Go.Operand.tmp 5), type := 24, pos := "law.go:376", after := #[], guard := none }) (v := .pointer (some ⟨Wb, 0, none⟩)) rfl (by kernel_rfl) (by kernel_rfl) (by kernel_rfl) (fun _ _ _ h => h) (Or.inl ⟨by rfl, fun w hSw => by (try dsimp only at hSw); go_simp⟩) hS1 ?_
          simp only [Act.put, List.setIfInBounds_toArray, List.set_cons_zero, List.set_cons_succ]
          refine wpAnyH_take (i := 1) (oi := { dst := some 128, op := Go.Op.nilCheck (Go.Operand.tmp 127), type := 0, pos := "law.go:376", after := #[{ on := 0, ground := Go.Ground.data }], guard := none }) (v := .pointer (some ⟨Wb, 0, none⟩)) rfl (by kernel_rfl) (by kernel_rfl) (by kernel_rfl) (fun _ _ _ h => h) (Or.inl ⟨by rfl, fun w hSw => by (try dsimp only at hSw); go_simp⟩) hS1 ?_
          simp only [Act.put, List.setIfInBounds_toArray, List.set_cons_zero, List.set_cons_succ]
          refine wpAnyH_take (i := 2) (oi := { dst := some 129, op := Go.Op.fieldAddr 35 (Go.Operand.tmp 128) 1, type := 0, pos := "law.go:376", after := #[{ on := 1, ground := Go.Ground.data }], guard := none }) (v := .pointer (some ⟨Wb, 6, none⟩)) rfl (by kernel_rfl) (by kernel_rfl) (by kernel_rfl) (fun _ _ _ h => h) (Or.inl ⟨by rfl, fun w hSw => by (try dsimp only at hSw); go_simp⟩) hS1 ?_
          simp only [Act.put, List.setIfInBounds_toArray, List.set_cons_zero, List.set_cons_succ]
          refine wpAnyH_take (i := 3) (oi := { dst := some 130, op := Go.Op.load 31 (Go.Operand.tmp 129), type := 31, pos := "law.go:376", after := #[{ on := 2, ground := Go.Ground.data }], guard := none }) (v := .pointer (some ⟨M, 0, none⟩)) rfl (by kernel_rfl) (by kernel_rfl) (by kernel_rfl) (fun _ _ _ h => h) (Or.inl ⟨by rfl, fun w hSw => by (try dsimp only at hSw); go_simp⟩) hS1 ?_
          simp only [Act.put, List.setIfInBounds_toArray, List.set_cons_zero, List.set_cons_succ]
          refine wpAnyH_take (i := 5) (oi := { dst := some 132, op := Go.Op.move (Go.Operand.tmp 5), type := 24, pos := "law.go:376", after := #[], guard := none }) (v := .pointer (some ⟨Wb, 0, none⟩)) rfl (by kernel_rfl) (by kernel_rfl) (by kernel_rfl) (fun _ _ _ h => h) (Or.inl ⟨by rfl, fun w hSw => by (try dsimp only at hSw); go_simp⟩) hS1 ?_
          simp only [Act.put, List.setIfInBounds_toArray, List.set_cons_zero, List.set_cons_succ]
          refine wpAnyH_take (i := 6) (oi := { dst := some 133, op := Go.Op.nilCheck (Go.Operand.tmp 132), type := 0, pos := "law.go:376", after := #[{ on := 5, ground := Go.Ground.data }], guard := none }) (v := .pointer (some ⟨Wb, 0, none⟩)) rfl (by kernel_rfl) (by kernel_rfl) (by kernel_rfl) (fun _ _ _ h => h) (Or.inl ⟨by rfl, fun w hSw => by (try dsimp only at hSw); go_simp⟩) hS1 ?_
          simp only [Act.put, List.setIfInBounds_toArray, List.set_cons_zero, List.set_cons_succ]
          refine wpAnyH_take (i := 7) (oi := { dst := some 134, op := Go.Op.fieldAddr 35 (Go.Operand.tmp 133) 0, type := 0, pos := "law.go:376", after := #[{ on := 6, ground := Go.Ground.data }], guard := none }) (v := .pointer (some ⟨Wb, 0, none⟩)) rfl (by kernel_rfl) (by kernel_rfl) (by kernel_rfl) (fun _ _ _ h => h) (Or.inl ⟨by rfl, fun w hSw => by (try dsimp only at hSw); go_simp⟩) hS1 ?_
          simp only [Act.put, List.setIfInBounds_toArray, List.set_cons_zero, List.set_cons_succ]
          refine wpAnyH_take (i := 8) (oi := { dst := some 135, op := Go.Op.load 30 (Go.Operand.tmp 134), type := 30, pos := "law.go:376", after := #[{ on := 7, ground := Go.Ground.data }], guard := none }) (v := .agg #[.int .i64 40, .int .i64 3, .int .i64 1, .int .i64 1, .int .i64 9, .int .i64 0]) rfl (by kernel_rfl) (by kernel_rfl) (by kernel_rfl) (fun _ _ _ h => h) (Or.inl ⟨by rfl, fun w hSw => by (try dsimp only at hSw); go_simp⟩) hS1 ?_
          simp only [Act.put, List.setIfInBounds_toArray, List.set_cons_zero, List.set_cons_succ]
          refine wpAnyH_ready (rs := [4]) (by kernel_rfl) (by simp) (AllReadyH.cons (o := { dst := some 131, op := Go.Op.call { callee := Go.Callee.value (Go.Operand.func 8), args := #[Go.Operand.tmp 130], argTypes := #[31] }, type := 39, pos := "law.go:376", after := #[{ on := 3, ground := Go.Ground.data }], guard := none }) rfl (fun K hK => ?_) AllReadyH.nil)
          go_simp
          go_at_call 8
          with_reducible refine (cW _ _ _ _ _ _ _ xw hwl.out).mono ?_
          rintro e w7 ⟨R, rfl, hR, hRl, b7⟩
          (try simp only [])

          have xw7 := xw.below b7
          refine hK.out _ _ (hS _ _ _ xw7) (fun hS1 => ?_)
          (try simp only [Act.put, List.setIfInBounds_toArray, List.set_cons_zero, List.set_cons_succ])
          clear xw hS0 hK K
          refine wpAnyH_ready (rs := [9]) (by kernel_rfl) (by simp) (AllReadyH.cons (o := { dst := some 136, op := Go.Op.call { callee := Go.Callee.value (Go.Operand.func 11), args := #[Go.Operand.tmp 135, Go.Operand.const (Go.Value.string { data := #[98, 111, 100, 121] }), Go.Operand.const (Go.Value.int Go.IntKind.i64 5), Go.Operand.const (Go.Value.int Go.IntKind.i64 1)], argTypes := #[30, 9, 3, 3] }, type := 3, pos := "law.go:376", after := #[{ on := 8, ground := Go.Ground.data }, { on := 4, ground := Go.Ground.chain }], guard := none }) rfl (fun K hK => ?_) AllReadyH.nil)
          go_simp
          go_at_call 11
          with_reducible refine (cAt _).mono ?_
          rintro e w8 ⟨rfl, b8⟩
          (try simp only [])

          have xw8 := xw7.below b8
          have r0 := rd _ _ (rdB _ _ _ hR b8)
          refine hK.out _ _ (hS _ _ _ xw8) (fun hS1 => ?_)
          (try simp only [Act.put, List.setIfInBounds_toArray, List.set_cons_zero, List.set_cons_succ])
          clear hR b8 hRl xw7 hK K
          refine wpAnyH_take (i := 10) (oi := { dst := some 137, op := Go.Op.indexAddr 39 (Go.Operand.tmp 131) (Go.Operand.tmp 136), type := 0, pos := "law.go:376", after := #[{ on := 4, ground := Go.Ground.data }, { on := 9, ground := Go.Ground.data }], guard := none }) (v := .pointer (some ⟨R, pl, none⟩)) rfl (by kernel_rfl) (by kernel_rfl) (by kernel_rfl) (fun _ _ _ h => h) (Or.inl ⟨by rfl, fun w hSw => by (try dsimp only at hSw); go_simp⟩) hS1 ?_
          simp only [Act.put, List.setIfInBounds_toArray, List.set_cons_zero, List.set_cons_succ]
          refine wpAnyH_ready (rs := [11]) (by kernel_rfl) (by simp) (AllReadyH.cons (o := { dst := some 138, op := Go.Op.load 38 (Go.Operand.tmp 137), type := 38, pos := "law.go:376", after := #[{ on := 10, ground := Go.Ground.data }], guard := none }) rfl (fun K hK => ?_) AllReadyH.nil)
          go_simp
          refine hK.out _ _ (hS _ _ _ xw8) (fun hS1 => ?_)
          (try simp only [Act.put, List.setIfInBounds_toArray, List.set_cons_zero, List.set_cons_succ])
          clear hK K
          refine wpAnyH_take (i := 12) (oi := { dst := some 12, op := Go.Op.assign (Go.Operand.tmp 138), type := 38, pos := "law.go:376", after := #[{ on := 11, ground := Go.Ground.data }, { on := 9, ground := Go.Ground.chain }, { on := 0, ground := Go.Ground.phase }, { on := 1, ground := Go.Ground.phase }, { on := 2, ground := Go.Ground.phase }, { on := 3, ground := Go.Ground.phase }, { on := 4, ground := Go.Ground.phase }, { on := 5, ground := Go.Ground.phase }, { on := 6, ground := Go.Ground.phase }, { on := 7, ground := Go.Ground.phase }, { on := 8, ground := Go.Ground.phase }, { on := 9, ground := Go.Ground.phase }, { on := 10, ground := Go.Ground.phase }, { on := 11, ground := Go.Ground.phase }], guard := none }) (v := .int .u64 (sv : Nat)) rfl (by kernel_rfl) (by kernel_rfl) (by kernel_rfl) (fun _ _ _ h => h) (Or.inl ⟨by rfl, fun w hSw => by (try dsimp only at hSw); go_simp⟩) hS1 ?_
          simp only [Act.put, List.setIfInBounds_toArray, List.set_cons_zero, List.set_cons_succ]
          refine wpAnyH_done (by kernel_rfl) ?_ _
          have c7 : w8.cell? ⟨Wb, 7, none⟩ = some (.pointer (some ⟨B, 0, none⟩)) := xw8.l.z.cellW rfl
          have cb := cBo _ _ _ 5 xw8 (by decide)
          have bw8 := xw8.l.z.bel
          clear hS1 r0
          rcases hst.out with ⟨h0, hb⟩ | ⟨s, p, hs, hz, hb, hp, hcp⟩
          · clear hst
            rw [hb] at cb
            have cb6 := cBo _ _ _ 6 xw8 (by decide)
            rw [b6.out] at cb6
            replace cb : Calls Tryz.prog 12 #[.pointer (some ⟨B, 0, none⟩), .int .i64 5] w8 fun e w' => e = .returned (.int .i64 (-1)) ∧ w8 = w' := cb
            replace cb6 : Calls Tryz.prog 12 #[.pointer (some ⟨B, 0, none⟩), .int .i64 6] w8 fun e w' => e = .returned (.int .i64 (-1)) ∧ w8 = w' := cb6
            subst h0
            clear hb b6 cBo cW rd rdB cAt xs
            go_wp2_with (first
              | (go_at_call 12; with_reducible refine cb.mono ?_; rintro e w9 ⟨rfl, rfl⟩)
              | (go_at_call 12; with_reducible refine cb6.mono ?_; rintro e w9 ⟨rfl, rfl⟩)
              | (go_at_call 4; with_reducible refine (cA _ bw8).mono ?_; rintro e w9 ⟨rfl, b9⟩))
            go_ret
            exact ⟨rfl, seq_below bw8 b9⟩
          · clear hst b6
            subst hs
            rw [hb] at cb
            replace cb : Calls Tryz.prog 12 #[.pointer (some ⟨B, 0, none⟩), .int .i64 5] w8 fun e w' => e = .returned (.int .i64 (p : Nat)) ∧ w8 = w' := cb
            have hzI : ¬ (sv : Int) = 0 := by omega
            have hzb : ((sv : Int) == 0) = false := by simp; omega
            go_upto_region 25 with (go_at_call 12; with_reducible refine cb.mono ?_; rintro e w9 ⟨rfl, rfl⟩)
            clear cb c7 bw8
            have hSj : ∀ wr g sf j, j < 1 + q → Xw w wr lo Wb M G B base (1 + q) g (.slice (some ⟨L, 0, none⟩) (1 + q) capL) (.slice (some ⟨C, 0, none⟩) cl.length capC) ps sf Pt t cl → wr.cell? ⟨L, j, none⟩ = some (.pointer (some ⟨ps j, 0, none⟩)) ∧ wr.cell? ⟨Wb, 6, none⟩ = some (.pointer (some ⟨M, 0, none⟩)) := fun wr g sf j hj y => ⟨row_at y.l.own (ptrs_get ps hj), y.l.z.cellW rfl⟩
            go_wp2
            go_loopw [14] (fun ii wr => ∃ (j : Nat) (g' : Gs) (sf' : Nat → Sm), j ≤ 1 + q ∧ ii = .int .i64 j ∧ (g'.X = g.X ∧ g'.k = g.k) ∧ (∀ m, m < 1 + q → (sf' m).place = KC.bd 5 1) ∧ (0 ≤ g'.T ∧ g'.T ≤ i + 3 * j) ∧ Xw w wr lo Wb M G B base (1 + q) g' (.slice (some ⟨L, 0, none⟩) (1 + q) capL) (.slice (some ⟨C, 0, none⟩) cl.length capC) ps sf' Pt t cl) (fun ii _ => 1 + q - (intOf ii).toNat)
            case atStart => exact ⟨0, g, sf, by omega, rfl, ⟨rfl, rfl⟩, fun m hm => (xs m hm).2.1, by omega, xw8⟩
            case round =>
              clear xw8
              obtain ⟨j, g', sf', hj, rfl, hg', hpl', hT', xw9⟩ := hrel
              by_cases hjq : j < 1 + q
              · have hjI : (j : Int) < 1 + (q : Int) := by omega
                go_upto_region 28 with fail
                go_wp2
                go_loopw [15] (fun ii wr => ∃ (m : Nat) (g2 : Gs) (sf2 : Nat → Sm), m ≤ 3 ∧ ii = .int .i64 m ∧ (g2.X = g.X ∧ g2.k = g.k) ∧ (∀ m, m < 1 + q → (sf2 m).place = KC.bd 5 1) ∧ (0 ≤ g2.T ∧ g2.T ≤ i + 3 * j + m) ∧ Xw w wr lo Wb M G B base (1 + q) g2 (.slice (some ⟨L, 0, none⟩) (1 + q) capL) (.slice (some ⟨C, 0, none⟩) cl.length capC) ps sf2 Pt t cl) (fun ii _ => 3 - (intOf ii).toNat)
                case atStart => exact ⟨0, g', sf', by omega, rfl, hg', hpl', by omega, xw9⟩
                case round =>
                  clear xw9 hT' hpl' hg'
                  obtain ⟨m, g2, sf2, hm, rfl, hg2, hpl2, hT2, xw2⟩ := hrel
                  by_cases hm3 : m < 3
                  · have hmI : (m : Int) < 3 := by omega
                    have ss := xs_still (hpl2 j hjq) (by rw [hg2.1, hsv.out]; exact hz)
                    have stT := (sf2 j).step_T g2
                    have c9 : ∀ wr, Xw w wr lo Wb M G B base (1 + q) g2 (.slice (some ⟨L, 0, none⟩) (1 + q) capL) (.slice (some ⟨C, 0, none⟩) cl.length capC) ps sf2 Pt t cl → _ := fun wr y => stamp_one (wr := wr) (j := j) y hjq (by omega)
                    have hSk := hSj
                    generalize (sf2 j).step g2 = sg at *
                    obtain ⟨s', g3⟩ := sg
                    simp only at ss stT c9
                    generalize decide (s'.pc = 3) = bd at c9
                    replace ss : Hid _ := ss
                    replace hg2 : Hid _ := hg2
                    go_upto_region 31 with fail
                    have xw := xw2.drew
                    clear xw2
                    go_region_held3 (fun wr => wr.cell? ⟨L, j, none⟩ = some (.pointer (some ⟨ps j, 0, none⟩)) ∧ wr.cell? ⟨Wb, 6, none⟩ = some (.pointer (some ⟨M, 0, none⟩))) (first | with_reducible exact hSj _ _ _ _ hjq xw4 | with_reducible exact hSj _ _ _ _ hjq xw)
                      ((go_at_call 9; with_reducible refine (c9 _ xw).mono ?_; rintro e w7 ⟨rfl, xw4⟩))
                    clear xw
                    go_wp2
                    go_roundw
                    case rel => exact ⟨m + 1, g3, fun k => if k = j then s' else sf2 k, by omega, by go_num, ⟨ss.out.1.trans hg2.out.1, ss.out.2.1.trans hg2.out.2⟩, fun k hk => by
                      by_cases e : k = j
                      · simp only [if_pos e]; exact ss.out.2.2
                      · simp only [if_neg e]; exact hpl2 k hk, by omega, xw4⟩
                    case measure => simp [intOf]; omega
                  · have hmI : ¬ (m : Int) < 3 := by omega
                    go_wp2
                    go_roundw
                    case rel => exact ⟨j + 1, g2, sf2, by omega, by go_num, hg2, hpl2, by omega, xw2⟩
                    case measure => simp [intOf]; omega
              · have hjI : ¬ (j : Int) < 1 + (q : Int) := by omega
                have hwl' : g'.X.length = N := by rw [hg'.1]; exact hwl.out
                have hbk : g'.k.born 5 = some (p : Int) := by rw [hg'.2]; exact hb
                have hX := hg'.1
                obtain ⟨p1, hp1⟩ : ∃ p1, p1 = p + 1 := ⟨_, rfl⟩
                have hwp : IntKind.i64.wrap ((p : Int) + 1) = (p1 : Int) := by rw [IntKind.wrap_i64]; omega
                have hp0 : (0 : Int) ≤ (p : Int) := by omega
                have hp1I : (p1 : Int) < (cl.length : Int) := by have := hcl.out; omega
                have hS2 : ∀ wr g sf, Xw w wr lo Wb M G B base (1 + q) g (.slice (some ⟨L, 0, none⟩) (1 + q) capL) (.slice (some ⟨C, 0, none⟩) cl.length capC) ps sf Pt t cl → ((wr.cell? ⟨Wb, 0, none⟩ = some (.int .i64 40) ∧ wr.cell? ⟨Wb, 1, none⟩ = some (.int .i64 3) ∧ wr.cell? ⟨Wb, 2, none⟩ = some (.int .i64 1) ∧ wr.cell? ⟨Wb, 3, none⟩ = some (.int .i64 1) ∧ wr.cell? ⟨Wb, 4, none⟩ = some (.int .i64 9) ∧ wr.cell? ⟨Wb, 5, none⟩ = some (.int .i64 0)) ∧ wr.cell? ⟨Wb, 6, none⟩ = some (.pointer (some ⟨M, 0, none⟩))) ∧ wr.cell? ⟨Wb, 7, none⟩ = some (.pointer (some ⟨B, 0, none⟩)) ∧ wr.cell? ⟨C, p1, none⟩ = some (.int .u64 (sv : Nat)) := fun wr g sf y => ⟨hS _ _ _ y, y.l.z.cellW rfl, row_at y.oc (by
                  rw [← hcp, hp1, List.getElem?_map, List.getElem?_eq_getElem (show p + 1 < cl.length by omega), List.getD_eq_getElem?_getD, List.getElem?_eq_getElem (show p + 1 < cl.length by omega)]
                  rfl)⟩
                have cb := fun wr (y : Xw w wr lo Wb M G B base (1 + q) g' (.slice (some ⟨L, 0, none⟩) (1 + q) capL) (.slice (some ⟨C, 0, none⟩) cl.length capC) ps sf' Pt t cl) => cBo _ _ _ 5 y (by decide)
                rw [hbk] at cb
                replace cb : ∀ wr, Xw w wr lo Wb M G B base (1 + q) g' (.slice (some ⟨L, 0, none⟩) (1 + q) capL) (.slice (some ⟨C, 0, none⟩) cl.length capC) ps sf' Pt t cl → Calls Tryz.prog 12 #[.pointer (some ⟨B, 0, none⟩), .int .i64 5] wr fun e w' => e = .returned (.int .i64 (p : Nat)) ∧ wr = w' := cb
                replace hX : Hid _ := hX
                replace hwl' : Hid _ := hwl'
                replace hp1 : Hid _ := hp1
                clear hg' hbk hb hpl' hSj hzb
                go_upto_region 32 with fail
                replace xw9 := xw9.drew
                have hS0 := hS2 _ _ _ xw9
                refine wp_region_held_drew (S := fun wq => ((wq.cell? ⟨Wb, 0, none⟩ = some (.int .i64 40) ∧ wq.cell? ⟨Wb, 1, none⟩ = some (.int .i64 3) ∧ wq.cell? ⟨Wb, 2, none⟩ = some (.int .i64 1) ∧ wq.cell? ⟨Wb, 3, none⟩ = some (.int .i64 1) ∧ wq.cell? ⟨Wb, 4, none⟩ = some (.int .i64 9) ∧ wq.cell? ⟨Wb, 5, none⟩ = some (.int .i64 0)) ∧ wq.cell? ⟨Wb, 6, none⟩ = some (.pointer (some ⟨M, 0, none⟩))) ∧ wq.cell? ⟨Wb, 7, none⟩ = some (.pointer (some ⟨B, 0, none⟩)) ∧ wq.cell? ⟨C, p1, none⟩ = some (.int .u64 (sv : Nat))) (by kernel_rfl) hS0 (fun hS1 => ?_)
                refine wpAnyH_take (i := 0) (oi := { dst := some 177, op := Go.Op.move (Go.Operand.tmp 13), type := 3, pos := "law.go:386", after := #[], guard := none }) (v := .int .i64 (p : Nat)) rfl (by kernel_rfl) (by kernel_rfl) (by kernel_rfl) (fun _ _ _ h => h) (Or.inl ⟨by rfl, fun w hSw => by (try dsimp only at hSw); go_simp⟩) hS1 ?_
                simp only [Act.put, List.setIfInBounds_toArray, List.set_cons_zero, List.set_cons_succ]
                refine wpAnyH_take (i := 1) (oi := { dst := some 178, op := Go.Op.binOp Go.BinOp.geq 3 (Go.Operand.tmp 177) (Go.Operand.const (Go.Value.int Go.IntKind.i64 0)) 3, type := 4, pos := "law.go:386", after := #[{ on := 0, ground := Go.Ground.data }], guard := none }) (v := .bool true) rfl (by kernel_rfl) (by kernel_rfl) (by kernel_rfl) (fun _ _ _ h => h) (Or.inl ⟨by rfl, fun w hSw => by (try dsimp only at hSw); go_simp⟩) hS1 ?_
                simp only [Act.put, List.setIfInBounds_toArray, List.set_cons_zero, List.set_cons_succ]
                refine wpAnyH_take (i := 2) (oi := { dst := some 179, op := Go.Op.move (Go.Operand.tmp 178), type := 4, pos := "law.go:386", after := #[{ on := 1, ground := Go.Ground.data }], guard := none }) (v := .bool true) rfl (by kernel_rfl) (by kernel_rfl) (by kernel_rfl) (fun _ _ _ h => h) (Or.inl ⟨by rfl, fun w hSw => by (try dsimp only at hSw); go_simp⟩) hS1 ?_
                simp only [Act.put, List.setIfInBounds_toArray, List.set_cons_zero, List.set_cons_succ]
                refine wpAnyH_take (i := 3) (oi := { dst := some 180, op := Go.Op.move (Go.Operand.tmp 13), type := 3, pos := "law.go:386", after := #[{ on := 2, ground := Go.Ground.guard }], guard := some (2, true) }) (v := .int .i64 (p : Nat)) rfl (by kernel_rfl) (by kernel_rfl) (by kernel_rfl) (fun _ _ _ h => h) (Or.inl ⟨by rfl, fun w hSw => by (try dsimp only at hSw); go_simp⟩) hS1 ?_
                simp only [Act.put, List.setIfInBounds_toArray, List.set_cons_zero, List.set_cons_succ]
                refine wpAnyH_take (i := 4) (oi := { dst := some 181, op := Go.Op.binOp Go.BinOp.add 3 (Go.Operand.tmp 180) (Go.Operand.const (Go.Value.int Go.IntKind.i64 1)) 3, type := 3, pos := "law.go:386", after := #[{ on := 3, ground := Go.Ground.data }, { on := 2, ground := Go.Ground.guard }], guard := some (2, true) }) (v := .int .i64 (p1 : Nat)) rfl (by kernel_rfl) (by kernel_rfl) (by kernel_rfl) (fun _ _ _ h => h) (Or.inl ⟨by rfl, fun w hSw => by (try dsimp only at hSw); go_simp⟩) hS1 ?_
                simp only [Act.put, List.setIfInBounds_toArray, List.set_cons_zero, List.set_cons_succ]
                refine wpAnyH_take (i := 5) (oi := { dst := some 182, op := Go.Op.move (Go.Operand.tmp 10), type := 39, pos := "law.go:386", after := #[{ on := 2, ground := Go.Ground.guard }], guard := some (2, true) }) (v := .slice (some ⟨C, 0, none⟩) cl.length capC) rfl (by kernel_rfl) (by kernel_rfl) (by kernel_rfl) (fun _ _ _ h => h) (Or.inl ⟨by rfl, fun w hSw => by (try dsimp only at hSw); go_simp⟩) hS1 ?_
                simp only [Act.put, List.setIfInBounds_toArray, List.set_cons_zero, List.set_cons_succ]
                refine wpAnyH_take (i := 6) (oi := { dst := some 183, op := Go.Op.call { callee := Go.Callee.builtin Go.Builtin.len, args := #[Go.Operand.tmp 182], argTypes := #[39] }, type := 3, pos := "law.go:386", after := #[{ on := 5, ground := Go.Ground.data }, { on := 2, ground := Go.Ground.guard }], guard := some (2, true) }) (v := .int .i64 (cl.length : Nat)) rfl (by kernel_rfl) (by kernel_rfl) (by kernel_rfl) (fun _ _ _ h => h) (Or.inl ⟨by rfl, fun w hSw => by (try dsimp only at hSw); go_simp⟩) hS1 ?_
                simp only [Act.put, List.setIfInBounds_toArray, List.set_cons_zero, List.set_cons_succ]
                refine wpAnyH_take (i := 7) (oi := { dst := some 184, op := Go.Op.binOp Go.BinOp.lss 3 (Go.Operand.tmp 181) (Go.Operand.tmp 183) 3, type := 4, pos := "law.go:386", after := #[{ on := 4, ground := Go.Ground.data }, { on := 6, ground := Go.Ground.data }, { on := 2, ground := Go.Ground.guard }], guard := some (2, true) }) (v := .bool true) rfl (by kernel_rfl) (by kernel_rfl) (by kernel_rfl) (fun _ _ _ h => h) (Or.inl ⟨by rfl, fun w hSw => by (try dsimp only at hSw); go_simp⟩) hS1 ?_
                simp only [Act.put, List.setIfInBounds_toArray, List.set_cons_zero, List.set_cons_succ]
                refine wpAnyH_take (i := 8) (oi := { dst := some 185, op := Go.Op.pick (Go.Operand.tmp 179) (Go.Operand.tmp 184) (Go.Operand.const (Go.Value.bool false)), type := 4, pos := "law.go:386", after := #[{ on := 2, ground := Go.Ground.data }, { on := 7, ground := Go.Ground.data }], guard := none }) (v := .bool true) rfl (by kernel_rfl) (by kernel_rfl) (by kernel_rfl) (fun _ _ _ h => h) (Or.inl ⟨by rfl, fun w hSw => by (try dsimp only at hSw); go_simp⟩) hS1 ?_
                simp only [Act.put, List.setIfInBounds_toArray, List.set_cons_zero, List.set_cons_succ]
                refine wpAnyH_take (i := 9) (oi := { dst := some 186, op := Go.Op.move (Go.Operand.tmp 185), type := 4, pos := "law.go:386", after := #[{ on := 8, ground := Go.Ground.data }, { on := 2, ground := Go.Ground.chain }], guard := none }) (v := .bool true) rfl (by kernel_rfl) (by kernel_rfl) (by kernel_rfl) (fun _ _ _ h => h) (Or.inl ⟨by rfl, fun w hSw => by (try dsimp only at hSw); go_simp⟩) hS1 ?_
                simp only [Act.put, List.setIfInBounds_toArray, List.set_cons_zero, List.set_cons_succ]
                refine wpAnyH_take (i := 10) (oi := { dst := some 187, op := Go.Op.move (Go.Operand.tmp 10), type := 39, pos := "law.go:386", after := #[{ on := 9, ground := Go.Ground.guard }], guard := some (9, true) }) (v := .slice (some ⟨C, 0, none⟩) cl.length capC) rfl (by kernel_rfl) (by kernel_rfl) (by kernel_rfl) (fun _ _ _ h => h) (Or.inl ⟨by rfl, fun w hSw => by (try dsimp only at hSw); go_simp⟩) hS1 ?_
                simp only [Act.put, List.setIfInBounds_toArray, List.set_cons_zero, List.set_cons_succ]
                refine wpAnyH_take (i := 11) (oi := { dst := some 188, op := Go.Op.move (Go.Operand.tmp 13), type := 3, pos := "law.go:386", after := #[{ on := 9, ground := Go.Ground.guard }], guard := some (9, true) }) (v := .int .i64 (p : Nat)) rfl (by kernel_rfl) (by kernel_rfl) (by kernel_rfl) (fun _ _ _ h => h) (Or.inl ⟨by rfl, fun w hSw => by (try dsimp only at hSw); go_simp⟩) hS1 ?_
                simp only [Act.put, List.setIfInBounds_toArray, List.set_cons_zero, List.set_cons_succ]
                refine wpAnyH_take (i := 12) (oi := { dst := some 189, op := Go.Op.binOp Go.BinOp.add 3 (Go.Operand.tmp 188) (Go.Operand.const (Go.Value.int Go.IntKind.i64 1)) 3, type := 3, pos := "law.go:386", after := #[{ on := 11, ground := Go.Ground.data }, { on := 9, ground := Go.Ground.guard }], guard := some (9, true) }) (v := .int .i64 (p1 : Nat)) rfl (by kernel_rfl) (by kernel_rfl) (by kernel_rfl) (fun _ _ _ h => h) (Or.inl ⟨by rfl, fun w hSw => by (try dsimp only at hSw); go_simp⟩) hS1 ?_
                simp only [Act.put, List.setIfInBounds_toArray, List.set_cons_zero, List.set_cons_succ]
                refine wpAnyH_take (i := 13) (oi := { dst := some 190, op := Go.Op.indexAddr 39 (Go.Operand.tmp 187) (Go.Operand.tmp 189), type := 0, pos := "law.go:386", after := #[{ on := 10, ground := Go.Ground.data }, { on := 12, ground := Go.Ground.data }, { on := 9, ground := Go.Ground.guard }], guard := some (9, true) }) (v := .pointer (some ⟨C, p1, none⟩)) rfl (by kernel_rfl) (by kernel_rfl) (by kernel_rfl) (fun _ _ _ h => h) (Or.inl ⟨by rfl, fun w hSw => by (try dsimp only at hSw); go_simp⟩) hS1 ?_
                simp only [Act.put, List.setIfInBounds_toArray, List.set_cons_zero, List.set_cons_succ]
                refine wpAnyH_take (i := 14) (oi := { dst := some 191, op := Go.Op.load 38 (Go.Operand.tmp 190), type := 38, pos := "law.go:386", after := #[{ on := 13, ground := Go.Ground.data }, { on := 9, ground := Go.Ground.guard }], guard := some (9, true) }) (v := .int .u64 (sv : Nat)) rfl (by kernel_rfl) (by kernel_rfl) (by kernel_rfl) (fun _ _ _ h => h) (Or.inl ⟨by rfl, fun w hSw => by (try dsimp only at hSw); go_simp⟩) hS1 ?_
                simp only [Act.put, List.setIfInBounds_toArray, List.set_cons_zero, List.set_cons_succ]
                refine wpAnyH_take (i := 15) (oi := { dst := some 192, op := Go.Op.move (Go.Operand.tmp 12), type := 38, pos := "law.go:386", after := #[{ on := 9, ground := Go.Ground.guard }], guard := some (9, true) }) (v := .int .u64 (sv : Nat)) rfl (by kernel_rfl) (by kernel_rfl) (by kernel_rfl) (fun _ _ _ h => h) (Or.inl ⟨by rfl, fun w hSw => by (try dsimp only at hSw); go_simp⟩) hS1 ?_
                simp only [Act.put, List.setIfInBounds_toArray, List.set_cons_zero, List.set_cons_succ]
                refine wpAnyH_take (i := 16) (oi := { dst := some 193, op := Go.Op.binOp Go.BinOp.eql 38 (Go.Operand.tmp 191) (Go.Operand.tmp 192) 38, type := 4, pos := "law.go:386", after := #[{ on := 14, ground := Go.Ground.data }, { on := 15, ground := Go.Ground.data }, { on := 9, ground := Go.Ground.guard }], guard := some (9, true) }) (v := .bool true) rfl (by kernel_rfl) (by kernel_rfl) (by kernel_rfl) (fun _ _ _ h => h) (Or.inl ⟨by rfl, fun w hSw => by (try dsimp only at hSw); go_simp⟩) hS1 ?_
                simp only [Act.put, List.setIfInBounds_toArray, List.set_cons_zero, List.set_cons_succ]
                refine wpAnyH_take (i := 17) (oi := { dst := some 194, op := Go.Op.pick (Go.Operand.tmp 186) (Go.Operand.tmp 193) (Go.Operand.const (Go.Value.bool false)), type := 4, pos := "law.go:386", after := #[{ on := 9, ground := Go.Ground.data }, { on := 16, ground := Go.Ground.data }], guard := none }) (v := .bool true) rfl (by kernel_rfl) (by kernel_rfl) (by kernel_rfl) (fun _ _ _ h => h) (Or.inl ⟨by rfl, fun w hSw => by (try dsimp only at hSw); go_simp⟩) hS1 ?_
                simp only [Act.put, List.setIfInBounds_toArray, List.set_cons_zero, List.set_cons_succ]
                refine wpAnyH_take (i := 18) (oi := { dst := some 195, op := Go.Op.move (Go.Operand.tmp 194), type := 4, pos := "law.go:386", after := #[{ on := 17, ground := Go.Ground.data }, { on := 9, ground := Go.Ground.chain }], guard := none }) (v := .bool true) rfl (by kernel_rfl) (by kernel_rfl) (by kernel_rfl) (fun _ _ _ h => h) (Or.inl ⟨by rfl, fun w hSw => by (try dsimp only at hSw); go_simp⟩) hS1 ?_
                simp only [Act.put, List.setIfInBounds_toArray, List.set_cons_zero, List.set_cons_succ]
                refine wpAnyH_take (i := 19) (oi := { dst := some 196, op := Go.Op.move (Go.Operand.tmp 5), type := 24, pos := "law.go:386", after := #[{ on := 18, ground := Go.Ground.guard }], guard := some (18, true) }) (v := .pointer (some ⟨Wb, 0, none⟩)) rfl (by kernel_rfl) (by kernel_rfl) (by kernel_rfl) (fun _ _ _ h => h) (Or.inl ⟨by rfl, fun w hSw => by (try dsimp only at hSw); go_simp⟩) hS1 ?_
                simp only [Act.put, List.setIfInBounds_toArray, List.set_cons_zero, List.set_cons_succ]
                refine wpAnyH_take (i := 20) (oi := { dst := some 197, op := Go.Op.nilCheck (Go.Operand.tmp 196), type := 0, pos := "law.go:386", after := #[{ on := 19, ground := Go.Ground.data }, { on := 18, ground := Go.Ground.guard }], guard := some (18, true) }) (v := .pointer (some ⟨Wb, 0, none⟩)) rfl (by kernel_rfl) (by kernel_rfl) (by kernel_rfl) (fun _ _ _ h => h) (Or.inl ⟨by rfl, fun w hSw => by (try dsimp only at hSw); go_simp⟩) hS1 ?_
                simp only [Act.put, List.setIfInBounds_toArray, List.set_cons_zero, List.set_cons_succ]
                refine wpAnyH_take (i := 21) (oi := { dst := some 198, op := Go.Op.fieldAddr 35 (Go.Operand.tmp 197) 1, type := 0, pos := "law.go:386", after := #[{ on := 20, ground := Go.Ground.data }, { on := 18, ground := Go.Ground.guard }], guard := some (18, true) }) (v := .pointer (some ⟨Wb, 6, none⟩)) rfl (by kernel_rfl) (by kernel_rfl) (by kernel_rfl) (fun _ _ _ h => h) (Or.inl ⟨by rfl, fun w hSw => by (try dsimp only at hSw); go_simp⟩) hS1 ?_
                simp only [Act.put, List.setIfInBounds_toArray, List.set_cons_zero, List.set_cons_succ]
                refine wpAnyH_take (i := 22) (oi := { dst := some 199, op := Go.Op.load 31 (Go.Operand.tmp 198), type := 31, pos := "law.go:386", after := #[{ on := 21, ground := Go.Ground.data }, { on := 18, ground := Go.Ground.guard }], guard := some (18, true) }) (v := .pointer (some ⟨M, 0, none⟩)) rfl (by kernel_rfl) (by kernel_rfl) (by kernel_rfl) (fun _ _ _ h => h) (Or.inl ⟨by rfl, fun w hSw => by (try dsimp only at hSw); go_simp⟩) hS1 ?_
                simp only [Act.put, List.setIfInBounds_toArray, List.set_cons_zero, List.set_cons_succ]
                refine wpAnyH_take (i := 24) (oi := { dst := some 201, op := Go.Op.move (Go.Operand.tmp 5), type := 24, pos := "law.go:386", after := #[{ on := 18, ground := Go.Ground.guard }], guard := some (18, true) }) (v := .pointer (some ⟨Wb, 0, none⟩)) rfl (by kernel_rfl) (by kernel_rfl) (by kernel_rfl) (fun _ _ _ h => h) (Or.inl ⟨by rfl, fun w hSw => by (try dsimp only at hSw); go_simp⟩) hS1 ?_
                simp only [Act.put, List.setIfInBounds_toArray, List.set_cons_zero, List.set_cons_succ]
                refine wpAnyH_take (i := 25) (oi := { dst := some 202, op := Go.Op.nilCheck (Go.Operand.tmp 201), type := 0, pos := "law.go:386", after := #[{ on := 24, ground := Go.Ground.data }, { on := 18, ground := Go.Ground.guard }], guard := some (18, true) }) (v := .pointer (some ⟨Wb, 0, none⟩)) rfl (by kernel_rfl) (by kernel_rfl) (by kernel_rfl) (fun _ _ _ h => h) (Or.inl ⟨by rfl, fun w hSw => by (try dsimp only at hSw); go_simp⟩) hS1 ?_
                simp only [Act.put, List.setIfInBounds_toArray, List.set_cons_zero, List.set_cons_succ]
                refine wpAnyH_take (i := 26) (oi := { dst := some 203, op := Go.Op.fieldAddr 35 (Go.Operand.tmp 202) 0, type := 0, pos := "law.go:386", after := #[{ on := 25, ground := Go.Ground.data }, { on := 18, ground := Go.Ground.guard }], guard := some (18, true) }) (v := .pointer (some ⟨Wb, 0, none⟩)) rfl (by kernel_rfl) (by kernel_rfl) (by kernel_rfl) (fun _ _ _ h => h) (Or.inl ⟨by rfl, fun w hSw => by (try dsimp only at hSw); go_simp⟩) hS1 ?_
                simp only [Act.put, List.setIfInBounds_toArray, List.set_cons_zero, List.set_cons_succ]
                refine wpAnyH_take (i := 27) (oi := { dst := some 204, op := Go.Op.load 30 (Go.Operand.tmp 203), type := 30, pos := "law.go:386", after := #[{ on := 26, ground := Go.Ground.data }, { on := 18, ground := Go.Ground.guard }], guard := some (18, true) }) (v := .agg #[.int .i64 40, .int .i64 3, .int .i64 1, .int .i64 1, .int .i64 9, .int .i64 0]) rfl (by kernel_rfl) (by kernel_rfl) (by kernel_rfl) (fun _ _ _ h => h) (Or.inl ⟨by rfl, fun w hSw => by (try dsimp only at hSw); go_simp⟩) hS1 ?_
                simp only [Act.put, List.setIfInBounds_toArray, List.set_cons_zero, List.set_cons_succ]
                refine wpAnyH_take (i := 31) (oi := { dst := some 208, op := Go.Op.move (Go.Operand.tmp 12), type := 38, pos := "law.go:386", after := #[{ on := 18, ground := Go.Ground.guard }], guard := some (18, true) }) (v := .int .u64 (sv : Nat)) rfl (by kernel_rfl) (by kernel_rfl) (by kernel_rfl) (fun _ _ _ h => h) (Or.inl ⟨by rfl, fun w hSw => by (try dsimp only at hSw); go_simp⟩) hS1 ?_
                simp only [Act.put, List.setIfInBounds_toArray, List.set_cons_zero, List.set_cons_succ]
                refine wpAnyH_ready (rs := [23]) (by kernel_rfl) (by simp) (AllReadyH.cons (o := { dst := some 200, op := Go.Op.call { callee := Go.Callee.value (Go.Operand.func 8), args := #[Go.Operand.tmp 199], argTypes := #[31] }, type := 39, pos := "law.go:386", after := #[{ on := 22, ground := Go.Ground.data }, { on := 18, ground := Go.Ground.chain }, { on := 18, ground := Go.Ground.guard }], guard := some (18, true) }) rfl (fun K hK => ?_) AllReadyH.nil)
                go_simp
                go_at_call 8
                with_reducible refine (cW _ _ _ _ _ _ _ xw9 hwl'.out).mono ?_
                rintro e w7 ⟨R, rfl, hR, hRl, b7⟩
                (try simp only [])
                have xw7 := xw9.below b7
                refine hK.out _ _ (hS2 _ _ _ xw7) (fun hS1 => ?_)
                (try simp only [Act.put, List.setIfInBounds_toArray, List.set_cons_zero, List.set_cons_succ])
                clear xw9 hS0 hK K
                refine wpAnyH_ready (rs := [28]) (by kernel_rfl) (by simp) (AllReadyH.cons (o := { dst := some 205, op := Go.Op.call { callee := Go.Callee.value (Go.Operand.func 11), args := #[Go.Operand.tmp 204, Go.Operand.const (Go.Value.string { data := #[98, 111, 100, 121] }), Go.Operand.const (Go.Value.int Go.IntKind.i64 5), Go.Operand.const (Go.Value.int Go.IntKind.i64 1)], argTypes := #[30, 9, 3, 3] }, type := 3, pos := "law.go:386", after := #[{ on := 27, ground := Go.Ground.data }, { on := 23, ground := Go.Ground.chain }, { on := 18, ground := Go.Ground.guard }], guard := some (18, true) }) rfl (fun K hK => ?_) AllReadyH.nil)
                go_simp
                go_at_call 11
                with_reducible refine (cAt _).mono ?_
                rintro e w8 ⟨rfl, b8⟩
                (try simp only [])
                have xw8 := xw7.below b8
                rw [hX.out] at hR
                have r0 := rd _ _ (rdB _ _ _ hR b8)
                refine hK.out _ _ (hS2 _ _ _ xw8) (fun hS1 => ?_)
                (try simp only [Act.put, List.setIfInBounds_toArray, List.set_cons_zero, List.set_cons_succ])
                clear hR b8 hRl xw7 hK K
                refine wpAnyH_take (i := 29) (oi := { dst := some 206, op := Go.Op.indexAddr 39 (Go.Operand.tmp 200) (Go.Operand.tmp 205), type := 0, pos := "law.go:386", after := #[{ on := 23, ground := Go.Ground.data }, { on := 28, ground := Go.Ground.data }, { on := 18, ground := Go.Ground.guard }], guard := some (18, true) }) (v := .pointer (some ⟨R, pl, none⟩)) rfl (by kernel_rfl) (by kernel_rfl) (by kernel_rfl) (fun _ _ _ h => h) (Or.inl ⟨by rfl, fun w hSw => by (try dsimp only at hSw); go_simp⟩) hS1 ?_
                simp only [Act.put, List.setIfInBounds_toArray, List.set_cons_zero, List.set_cons_succ]
                refine wpAnyH_ready (rs := [30]) (by kernel_rfl) (by simp) (AllReadyH.cons (o := { dst := some 207, op := Go.Op.load 38 (Go.Operand.tmp 206), type := 38, pos := "law.go:386", after := #[{ on := 29, ground := Go.Ground.data }, { on := 18, ground := Go.Ground.guard }], guard := some (18, true) }) rfl (fun K hK => ?_) AllReadyH.nil)
                go_simp
                refine hK.out _ _ (hS2 _ _ _ xw8) (fun hS1 => ?_)
                (try simp only [Act.put, List.setIfInBounds_toArray, List.set_cons_zero, List.set_cons_succ])
                clear hK K r0
                refine wpAnyH_take (i := 32) (oi := { dst := some 209, op := Go.Op.binOp Go.BinOp.eql 38 (Go.Operand.tmp 207) (Go.Operand.tmp 208) 38, type := 4, pos := "law.go:386", after := #[{ on := 30, ground := Go.Ground.data }, { on := 31, ground := Go.Ground.data }, { on := 18, ground := Go.Ground.guard }], guard := some (18, true) }) (v := .bool true) rfl (by kernel_rfl) (by kernel_rfl) (by kernel_rfl) (fun _ _ _ h => h) (Or.inl ⟨by rfl, fun w hSw => by (try dsimp only at hSw); go_simp⟩) hS1 ?_
                simp only [Act.put, List.setIfInBounds_toArray, List.set_cons_zero, List.set_cons_succ]
                refine wpAnyH_take (i := 33) (oi := { dst := some 210, op := Go.Op.pick (Go.Operand.tmp 195) (Go.Operand.tmp 209) (Go.Operand.const (Go.Value.bool false)), type := 4, pos := "law.go:386", after := #[{ on := 18, ground := Go.Ground.data }, { on := 32, ground := Go.Ground.data }], guard := none }) (v := .bool true) rfl (by kernel_rfl) (by kernel_rfl) (by kernel_rfl) (fun _ _ _ h => h) (Or.inl ⟨by rfl, fun w hSw => by (try dsimp only at hSw); go_simp⟩) hS1 ?_
                simp only [Act.put, List.setIfInBounds_toArray, List.set_cons_zero, List.set_cons_succ]
                refine wpAnyH_take (i := 34) (oi := { dst := some 211, op := Go.Op.move (Go.Operand.tmp 210), type := 4, pos := "law.go:386", after := #[{ on := 33, ground := Go.Ground.data }, { on := 28, ground := Go.Ground.chain }], guard := none }) (v := .bool true) rfl (by kernel_rfl) (by kernel_rfl) (by kernel_rfl) (fun _ _ _ h => h) (Or.inl ⟨by rfl, fun w hSw => by (try dsimp only at hSw); go_simp⟩) hS1 ?_
                simp only [Act.put, List.setIfInBounds_toArray, List.set_cons_zero, List.set_cons_succ]
                refine wpAnyH_take (i := 35) (oi := { dst := some 212, op := Go.Op.move (Go.Operand.tmp 5), type := 24, pos := "law.go:386", after := #[{ on := 34, ground := Go.Ground.guard }], guard := some (34, true) }) (v := .pointer (some ⟨Wb, 0, none⟩)) rfl (by kernel_rfl) (by kernel_rfl) (by kernel_rfl) (fun _ _ _ h => h) (Or.inl ⟨by rfl, fun w hSw => by (try dsimp only at hSw); go_simp⟩) hS1 ?_
                simp only [Act.put, List.setIfInBounds_toArray, List.set_cons_zero, List.set_cons_succ]
                refine wpAnyH_take (i := 36) (oi := { dst := some 213, op := Go.Op.nilCheck (Go.Operand.tmp 212), type := 0, pos := "law.go:386", after := #[{ on := 35, ground := Go.Ground.data }, { on := 34, ground := Go.Ground.guard }], guard := some (34, true) }) (v := .pointer (some ⟨Wb, 0, none⟩)) rfl (by kernel_rfl) (by kernel_rfl) (by kernel_rfl) (fun _ _ _ h => h) (Or.inl ⟨by rfl, fun w hSw => by (try dsimp only at hSw); go_simp⟩) hS1 ?_
                simp only [Act.put, List.setIfInBounds_toArray, List.set_cons_zero, List.set_cons_succ]
                refine wpAnyH_take (i := 37) (oi := { dst := some 214, op := Go.Op.fieldAddr 35 (Go.Operand.tmp 213) 2, type := 0, pos := "law.go:386", after := #[{ on := 36, ground := Go.Ground.data }, { on := 34, ground := Go.Ground.guard }], guard := some (34, true) }) (v := .pointer (some ⟨Wb, 7, none⟩)) rfl (by kernel_rfl) (by kernel_rfl) (by kernel_rfl) (fun _ _ _ h => h) (Or.inl ⟨by rfl, fun w hSw => by (try dsimp only at hSw); go_simp⟩) hS1 ?_
                simp only [Act.put, List.setIfInBounds_toArray, List.set_cons_zero, List.set_cons_succ]
                refine wpAnyH_take (i := 38) (oi := { dst := some 215, op := Go.Op.load 32 (Go.Operand.tmp 214), type := 32, pos := "law.go:386", after := #[{ on := 37, ground := Go.Ground.data }, { on := 34, ground := Go.Ground.guard }], guard := some (34, true) }) (v := .pointer (some ⟨B, 0, none⟩)) rfl (by kernel_rfl) (by kernel_rfl) (by kernel_rfl) (fun _ _ _ h => h) (Or.inl ⟨by rfl, fun w hSw => by (try dsimp only at hSw); go_simp⟩) hS1 ?_
                simp only [Act.put, List.setIfInBounds_toArray, List.set_cons_zero, List.set_cons_succ]
                refine wpAnyH_take (i := 40) (oi := { dst := some 217, op := Go.Op.move (Go.Operand.tmp 13), type := 3, pos := "law.go:386", after := #[{ on := 34, ground := Go.Ground.guard }], guard := some (34, true) }) (v := .int .i64 (p : Nat)) rfl (by kernel_rfl) (by kernel_rfl) (by kernel_rfl) (fun _ _ _ h => h) (Or.inl ⟨by rfl, fun w hSw => by (try dsimp only at hSw); go_simp⟩) hS1 ?_
                simp only [Act.put, List.setIfInBounds_toArray, List.set_cons_zero, List.set_cons_succ]
                refine wpAnyH_ready (rs := [39]) (by kernel_rfl) (by simp) (AllReadyH.cons (o := { dst := some 216, op := Go.Op.call { callee := Go.Callee.value (Go.Operand.func 12), args := #[Go.Operand.tmp 215, Go.Operand.const (Go.Value.int Go.IntKind.i64 5)], argTypes := #[32, 3] }, type := 3, pos := "law.go:386", after := #[{ on := 38, ground := Go.Ground.data }, { on := 34, ground := Go.Ground.chain }, { on := 34, ground := Go.Ground.guard }], guard := some (34, true) }) rfl (fun K hK => ?_) AllReadyH.nil)
                go_simp
                go_at_call 12
                with_reducible refine (cb _ xw8).mono ?_
                rintro e w9 ⟨rfl, rfl⟩
                (try simp only [])
                refine hK.out _ _ (hS2 _ _ _ xw8) (fun hS1 => ?_)
                (try simp only [Act.put, List.setIfInBounds_toArray, List.set_cons_zero, List.set_cons_succ])
                clear hK K
                refine wpAnyH_take (i := 41) (oi := { dst := some 218, op := Go.Op.binOp Go.BinOp.eql 3 (Go.Operand.tmp 216) (Go.Operand.tmp 217) 3, type := 4, pos := "law.go:386", after := #[{ on := 39, ground := Go.Ground.data }, { on := 40, ground := Go.Ground.data }, { on := 34, ground := Go.Ground.guard }], guard := some (34, true) }) (v := .bool true) rfl (by kernel_rfl) (by kernel_rfl) (by kernel_rfl) (fun _ _ _ h => h) (Or.inl ⟨by rfl, fun w hSw => by (try dsimp only at hSw); go_simp⟩) hS1 ?_
                simp only [Act.put, List.setIfInBounds_toArray, List.set_cons_zero, List.set_cons_succ]
                refine wpAnyH_take (i := 42) (oi := { dst := some 219, op := Go.Op.pick (Go.Operand.tmp 211) (Go.Operand.tmp 218) (Go.Operand.const (Go.Value.bool false)), type := 4, pos := "law.go:386", after := #[{ on := 34, ground := Go.Ground.data }, { on := 41, ground := Go.Ground.data }], guard := none }) (v := .bool true) rfl (by kernel_rfl) (by kernel_rfl) (by kernel_rfl) (fun _ _ _ h => h) (Or.inl ⟨by rfl, fun w hSw => by (try dsimp only at hSw); go_simp⟩) hS1 ?_
                simp only [Act.put, List.setIfInBounds_toArray, List.set_cons_zero, List.set_cons_succ]
                refine wpAnyH_take (i := 43) (oi := { dst := some 220, op := Go.Op.move (Go.Operand.tmp 219), type := 4, pos := "law.go:386", after := #[{ on := 42, ground := Go.Ground.data }, { on := 39, ground := Go.Ground.chain }], guard := none }) (v := .bool true) rfl (by kernel_rfl) (by kernel_rfl) (by kernel_rfl) (fun _ _ _ h => h) (Or.inl ⟨by rfl, fun w hSw => by (try dsimp only at hSw); go_simp⟩) hS1 ?_
                simp only [Act.put, List.setIfInBounds_toArray, List.set_cons_zero, List.set_cons_succ]
                have bw8 := xw8.l.z.bel
                refine wpAnyH_ready (rs := [44]) (by kernel_rfl) (by simp) (AllReadyH.cons (o := { dst := some 221, op := Go.Op.call { callee := Go.Callee.value (Go.Operand.func 4), args := #[], argTypes := #[] }, type := 4, pos := "law.go:386", after := #[{ on := 43, ground := Go.Ground.chain }, { on := 43, ground := Go.Ground.guard }], guard := some (43, true) }) rfl (fun K hK => ?_) AllReadyH.nil)
                go_simp
                go_at_call 4
                with_reducible refine (cA _ bw8).mono ?_
                rintro e w9 ⟨rfl, b9⟩
                (try simp only [])
                refine hK.out _ _ (hS2 _ _ _ (xw8.below b9)) (fun hS1 => ?_)
                (try simp only [Act.put, List.setIfInBounds_toArray, List.set_cons_zero, List.set_cons_succ])
                clear hK K
                refine wpAnyH_take (i := 45) (oi := { dst := some 222, op := Go.Op.pick (Go.Operand.tmp 220) (Go.Operand.tmp 221) (Go.Operand.const (Go.Value.bool false)), type := 4, pos := "law.go:386", after := #[{ on := 43, ground := Go.Ground.data }, { on := 44, ground := Go.Ground.data }], guard := none }) (v := .bool true) rfl (by kernel_rfl) (by kernel_rfl) (by kernel_rfl) (fun _ _ _ h => h) (Or.inl ⟨by rfl, fun w hSw => by (try dsimp only at hSw); go_simp⟩) hS1 ?_
                simp only [Act.put, List.setIfInBounds_toArray, List.set_cons_zero, List.set_cons_succ]
                refine wpAnyH_take (i := 46) (oi := { dst := some 4, op := Go.Op.assign (Go.Operand.tmp 222), type := 4, pos := "law.go:386", after := #[{ on := 45, ground := Go.Ground.data }, { on := 44, ground := Go.Ground.chain }, { on := 0, ground := Go.Ground.phase }, { on := 1, ground := Go.Ground.phase }, { on := 2, ground := Go.Ground.phase }, { on := 3, ground := Go.Ground.phase }, { on := 4, ground := Go.Ground.phase }, { on := 5, ground := Go.Ground.phase }, { on := 6, ground := Go.Ground.phase }, { on := 7, ground := Go.Ground.phase }, { on := 8, ground := Go.Ground.phase }, { on := 9, ground := Go.Ground.phase }, { on := 10, ground := Go.Ground.phase }, { on := 11, ground := Go.Ground.phase }, { on := 12, ground := Go.Ground.phase }, { on := 13, ground := Go.Ground.phase }, { on := 14, ground := Go.Ground.phase }, { on := 15, ground := Go.Ground.phase }, { on := 16, ground := Go.Ground.phase }, { on := 17, ground := Go.Ground.phase }, { on := 18, ground := Go.Ground.phase }, { on := 19, ground := Go.Ground.phase }, { on := 20, ground := Go.Ground.phase }, { on := 21, ground := Go.Ground.phase }, { on := 22, ground := Go.Ground.phase }, { on := 23, ground := Go.Ground.phase }, { on := 24, ground := Go.Ground.phase }, { on := 25, ground := Go.Ground.phase }, { on := 26, ground := Go.Ground.phase }, { on := 27, ground := Go.Ground.phase }, { on := 28, ground := Go.Ground.phase }, { on := 29, ground := Go.Ground.phase }, { on := 30, ground := Go.Ground.phase }, { on := 31, ground := Go.Ground.phase }, { on := 32, ground := Go.Ground.phase }, { on := 33, ground := Go.Ground.phase }, { on := 34, ground := Go.Ground.phase }, { on := 35, ground := Go.Ground.phase }, { on := 36, ground := Go.Ground.phase }, { on := 37, ground := Go.Ground.phase }, { on := 38, ground := Go.Ground.phase }, { on := 39, ground := Go.Ground.phase }, { on := 40, ground := Go.Ground.phase }, { on := 41, ground := Go.Ground.phase }, { on := 42, ground := Go.Ground.phase }, { on := 43, ground := Go.Ground.phase }, { on := 44, ground := Go.Ground.phase }, { on := 45, ground := Go.Ground.phase }], guard := none }) (v := .bool true) rfl (by kernel_rfl) (by kernel_rfl) (by kernel_rfl) (fun _ _ _ h => h) (Or.inl ⟨by rfl, fun w hSw => by (try dsimp only at hSw); go_simp⟩) hS1 ?_
                simp only [Act.put, List.setIfInBounds_toArray, List.set_cons_zero, List.set_cons_succ]
                refine wpAnyH_done (by kernel_rfl) ?_ _
                go_wp2
                go_ret
                exact ⟨rfl, seq_below bw8 b9⟩
end Go.Proofs.YtnegdabcjnhpdaaGreatDoor
/- Numbers that came in. -/
namespace Go.Proofs.YtnegdabcjnhpdaaGreatDoor
open Go.ChangeShapes Go.WideShapes Go.ChangeAt Go.RowKit Go.Deep
open Hh (WT)
namespace Op2
theorem cellsI : Tryz.prog.cellsOf 3 = 1 := by kernel_rfl
theorem choose_lt' {α : Type} {len : Nat} (h0 : 0 < len) {p : Nat → α → Prop} (h : ∀ i, i < len → ∃ z, p i z) : ∃ Z : Nat → α, ∀ i, i < len → p i (Z i) := by
  obtain ⟨z0, _⟩ := h 0 h0
  exact ⟨fun i => if hi : i < len then Classical.choose (h i hi) else z0, fun i hi => by simp only [hi, dite_true]; exact Classical.choose_spec (h i hi)⟩
theorem lt_of_cell {w : World} {b o : Nat} {v : Value} (h : w.cell? ⟨b, o, none⟩ = some v) : b < w.heap.size := by
  unfold World.cell? at h
  simp only at h
  cases hb : w.heap[b]? with
  | none => rw [hb] at h; cases h
  | some x => exact lt_of_block hb
theorem add_none (b o i : Nat) : (⟨b, o, none⟩ : Addr).add i = ⟨b, o + i, none⟩ := by simp [Addr.add]
theorem open_ints {H : Type} {enc : TypeId × Value → H} {w : World} {ad : Option Addr} {len cap fuel : Nat} {x : DataW H × List MemPlace}
    (h : DataW.trod enc Tryz.prog w 0 (fun _ => true) true fuel 22 [.slice ad len cap] = some x) : ∃ Z : Nat → Int, RdI w ad len Z ∧ len ≤ maxLen := by
  rcases open_slice1 Tryz.underlying22 cellsI h with ⟨h0, _⟩ | ⟨a, len', cap', m, n, V, D, Pl, hcs, hb, hl, hm, hmm, hx, hV⟩
  · simp only [List.cons.injEq, Value.slice.injEq, and_true] at h0
    obtain ⟨rfl, rfl, rfl⟩ := h0
    exact ⟨fun _ => 0, fun i hi => by omega, Nat.zero_le _⟩
  · simp only [List.cons.injEq, Value.slice.injEq, and_true] at hcs
    obtain ⟨rfl, rfl, rfl⟩ := hcs
    simp only [if_true] at hmm
    subst hmm
    rcases Nat.eq_zero_or_pos len with h0 | h0
    · exact ⟨fun _ => 0, fun i hi => by omega, by omega⟩
    · obtain ⟨Z, hZ⟩ := choose_lt' h0 (p := fun i (z : Int) => V i = .int .i64 z) fun i hi => by
        obtain ⟨z, e, -, hw⟩ := DataW.trod_int Tryz.underlying3 (hV i (by omega)).2
        simp only [List.cons.injEq, and_true] at e
        exact ⟨z, e⟩
      obtain ⟨b, off, spot⟩ := a
      have hspot : spot = none := by simpa [Addr.add] using World.cell?_spot (hV 0 (by omega)).1
      subst hspot
      refine ⟨Z, fun i hi => ⟨b, off, rfl, ?_, ?_⟩, Nat.le_trans hl hm⟩
      · have hc := (hV i (by omega)).1
        rw [add_none] at hc
        exact lt_of_cell hc
      · have hc := (hV i (by omega)).1
        rw [add_none, hZ i hi] at hc
        exact hc
end Op2
theorem open_ints {H : Type} {enc : TypeId × Value → H} {w : World} {ad : Option Addr} {len cap fuel : Nat} {x : DataW H × List MemPlace} (h : DataW.trod enc Tryz.prog w 0 (fun _ => true) true fuel 22 [.slice ad len cap] = some x) : ∃ Z : Nat → Int, RdI w ad len Z ∧ len ≤ maxLen := Op2.open_ints h
theorem stamps_row (n : Int) (hn : 0 ≤ n ∧ n ≤ 255) (ad : Option Addr) (len cap : Nat) (Z : Nat → Int) (w : World) (hw : WT w) (hZ : RdI w ad len Z) : Calls Tryz.prog 3 #[.int .u8 n, .slice ad len cap] w fun e w' => e = .returned (.bool true) ∧ Below w.heap.size w w' := stamps_law0 n hn ad len cap Z hZ hw fun _ h => awake_any (hw.below h)
end Go.Proofs.YtnegdabcjnhpdaaGreatDoor
