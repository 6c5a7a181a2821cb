/- The document's example, and the law of no table. -/
import Derived.Test.YtnegdabcjnhpdaaRFind
namespace Go.Proofs.Ytnegdabcjnhpdaa
open Go.RowKit
open Mm (Only wordsOf)

/-- A table that lies in blocks which the call itself has made. -/
structure Own (w wr : World) (P R : Nat) (t : Tb) : Prop where
  tab : IsTab wr P R t
  bel : Below w.heap.size w wr
  hP : w.heap.size ≤ P
  hR : w.heap.size ≤ R
theorem Own.below {w wr w' : World} {P R : Nat} {t : Tb} (h : Own w wr P R t) (b : Below wr.heap.size wr w') : Own w w' P R t := ⟨h.tab.below b, h.bel.trans (b.mono h.bel.size), h.hP, h.hR⟩
theorem Own.chg {w wr w' : World} {P R : Nat} {t t' : Tb} (h : Own w wr P R t) (c : Chg [R] wr w') (ht : IsTab w' P R t') : Own w w' P R t' :=
  ⟨ht, c.below h.bel (by have := h.hR; simp; omega) (Nat.le_refl _), h.hP, h.hR⟩

def exT : Tb := ⟨9, 0, 1, 2, 1, 0, 0, [(0, -1), (0, -1)]⟩
def exT1 : Tb := ⟨9, 0, 1, 2, 1, 0, 0, [(1, 4), (0, -1)]⟩

set_option maxHeartbeats 1000000 in
theorem awake_any (w : World) : Calls Try.prog 4 #[] w fun e w' => e = .returned (.bool true) ∧ Below w.heap.size w w' := by
  have c1 : Calls Try.prog 5 #[.agg (cs 9 0 1 2 1 0), .int .i64 0, .int .u64 0] w fun e w' => ∃ P R, e = .returned (.pointer (some ⟨P, 0, none⟩)) ∧ Own w w' P R exT := (newTable_yes (s := 9) (a := 0) (c := 1) (d := 2) (g := 1) (k := 0) (who := 0) 0 2 (by omega) rfl rfl rfl w).mono fun e w' ⟨P, R, he, ht, h1, h2, hb⟩ => ⟨P, R, he, ht, hb, h1, h2⟩
  have c2 : ∀ wr P R, Own w wr P R exT → Calls Try.prog 7 #[.pointer (some ⟨P, 0, none⟩), .int .i64 4] wr fun e w' => e = .returned (.tuple #[.int .i64 0, .int .u64 72057594037927937, .bool true]) ∧ Own w w' P R exT1 := fun wr P R o => by
    have h := take_yes o.tab 4 (by decide) (i := 0) rfl (tg := 0) rfl
    rw [show Tg.hW exT.who ((0 : Nat) : Int) (0 + 1) = 72057594037927937 by decide] at h
    exact h.mono fun e w' ⟨he, ht, hc⟩ => ⟨he, o.chg hc ht⟩
  have c3 : ∀ wr P R, Own w wr P R exT1 → Calls Try.prog 12 #[.pointer (some ⟨P, 0, none⟩), .int .i64 0] wr fun e w' => e = .returned (.int .u64 4294967301) ∧ wr = w' := fun wr P R o => word_in o.tab 0 (by decide)
  have c4 : ∀ wr P R, Own w wr P R exT1 → Calls Try.prog 13 #[.pointer (some ⟨P, 0, none⟩)] wr fun e w' => e = .returned (.int .i64 1) ∧ Below wr.heap.size wr w' := fun wr P R o => held_any o.tab
  have c5 : ∀ wr P R, Own w wr P R exT1 → Calls Try.prog 14 #[.pointer (some ⟨P, 0, none⟩)] wr fun e w' => e = .returned (.bool true) ∧ Below wr.heap.size wr w' := fun wr P R o => room_any o.tab
  unfold cs at *
  go_enter Try.func4, Try.ntmps4
  go_wp2_with (first
    | (go_at_call 5; refine c1.mono ?_; rintro e w1 ⟨P, R, rfl, o⟩)
    | (go_at_call 7; refine (c2 _ _ _ o).mono ?_; rintro e w2 ⟨rfl, o2⟩)
    | (go_at_call 12; refine (c3 _ _ _ o2).mono ?_; rintro e w3 ⟨rfl, rfl⟩)
    | (go_at_call 13; refine (c4 _ _ _ o2).mono ?_; rintro e w3 ⟨rfl, b⟩; replace o2 := o2.below b)
    | (go_at_call 14; refine (c5 _ _ _ o2).mono ?_; rintro e w3 ⟨rfl, b⟩; replace o2 := o2.below b))
  go_ret
  exact ⟨rfl, o2.bel⟩

end Go.Proofs.Ytnegdabcjnhpdaa
