/- The contract of the law's own 'over': a taker's work is done. -/
import Derived.Test.YtcfallaekedmkaaSAlone
import Derived.Deep.RegionHeldLaw
namespace Go.Proofs.Ytcfallaekedmkaa
open Go.RowKit
set_option linter.unusedVariables false

/-- A row of takers. -/
def IsRow (w : World) (L : Nat) (cur : Array Value) : Prop := w.heap[L]? = some (.cells cur 35 (0, 0))
theorem IsRow.cell {w : World} {L : Nat} {cur : Array Value} (h : IsRow w L cur) {i : Nat} {v : Value} (hv : cur[i]? = some v) : w.cell? ⟨L, i, none⟩ = some v := by
  have h' : w.heap[L]? = _ := h
  simp only [World.cell?, h']
  exact hv
theorem IsRow.free {w : World} {L : Nat} {cur : Array Value} (h : IsRow w L cur) (i : Nat) : w.frozen? ⟨L, i, none⟩ = false := by
  have h' : w.heap[L]? = _ := h
  simp [World.frozen?, h']
theorem IsRow.lt {w : World} {L : Nat} {cur : Array Value} (h : IsRow w L cur) : L < w.heap.size := lt_of_block h
theorem IsRow.below {w w' : World} {L : Nat} {cur : Array Value} (h : IsRow w L cur) (b : Below w.heap.size w w') : IsRow w' L cur := (b.block L h.lt).trans h
theorem IsRow.chg {l : List Nat} {w w' : World} {L : Nat} {cur : Array Value} (h : IsRow w L cur) (b : Chg l w w') (hn : L ∉ l) : IsRow w' L cur := b.at h hn
theorem IsRow.set {w : World} {L : Nat} {cur : Array Value} (h : IsRow w L cur) (i : Nat) (v : Value) : IsRow (w.setCell ⟨L, i, none⟩ v) L (cur.setIfInBounds i v) := Mm.heap_setCell_at h v
theorem set_ne {cur : Array Value} {i j : Nat} {v : Value} (h : i ≠ j) : (cur.setIfInBounds i v)[j]? = cur[j]? := Array.getElem?_setIfInBounds_ne h
theorem set_eq {cur : Array Value} {i : Nat} {u v : Value} (h : cur[i]? = some u) : (cur.setIfInBounds i v)[i]? = some v := by
  have hi : i < cur.size := (Array.getElem?_eq_some_iff.1 h).1
  simp [hi]

/-- A slice of ints where one cell of another block is set. -/
theorem IsI.set {w : World} {v : Value} {xs : List Nat} (h : IsI w v xs) {L i : Nat} (hn : ∀ r, v.ownBlock = some r → r ≠ L) (u : Value) : IsI (w.setCell ⟨L, i, none⟩ u) v xs :=
  h.kept fun g hg => Below.heap_setCell _ _ _ _ (hn g hg)

set_option maxHeartbeats 2000000 in
theorem over_push {w : World} {L o : Nat} {cur : Array Value} {F : List Nat} {s : Nat} {v1 v2 : Value} {pp : Option Addr} (hr : IsRow w L cur) (h2 : cur[o + 2]? = some (.pointer none)) (h3 : cur[o + 3]? = some (.pointer pp)) (h4 : cur[o + 4]? = some (.int .i64 (s : Nat)))
    (i1 : IsI w v1 F) (i2 : IsI w v2 (s :: F)) (n1 : ∀ r, v1.ownBlock = some r → r ≠ L) (n2 : ∀ r, v2.ownBlock = some r → r ≠ L) (hl : F.length ≤ 64) :
    Calls Try.prog 31 #[.pointer (some ⟨L, o, none⟩), v1, v2] w fun e w' => e = .returned (.bool true) ∧ IsRow w' L ((cur.setIfInBounds (o + 2) (.pointer none)).setIfInBounds (o + 3) (.pointer none)) ∧ Chg [L] w w' := by
  obtain ⟨a1, p1, rfl, _, _⟩ := i1.form
  obtain ⟨a2, p2, rfl, hp2, f2⟩ := i2.form
  obtain ⟨g2, o2, rfl⟩ := f2 (by simp)
  rw [List.length_cons] at *
  have ch := Chg.refl [L] w
  have c2 := hr.cell h2
  have c3 := hr.cell h3
  have fz := hr.free
  go_enter Try.func31, Try.ntmps31
  go_upto_region 5 with fail
  replace hr := (hr.set (o + 2) (.pointer none)).set (o + 3) (.pointer none)
  replace i1 := (i1.set (i := o + 2) n1 (.pointer none)).set (i := o + 3) n1 (.pointer none)
  replace i2 := (i2.set (i := o + 2) n2 (.pointer none)).set (i := o + 3) n2 (.pointer none)
  replace ch := (ch.setCell (b := L) (o := o + 2) (by simp) (.pointer none)).setCell (b := L) (o := o + 3) (by simp) (.pointer none)
  clear c2 c3 fz
  generalize (w.setCell ⟨L, o + 2, none⟩ (.pointer none)).setCell ⟨L, o + 3, none⟩ (.pointer none) = w2 at *
  have q4 : ((cur.setIfInBounds (o + 2) (.pointer none)).setIfInBounds (o + 3) (.pointer none))[o + 4]? = some (.int .i64 (s : Nat)) := by rw [set_ne (by omega), set_ne (by omega)]; exact h4
  obtain ⟨cur2, hc2⟩ : ∃ c, (cur.setIfInBounds (o + 2) (.pointer none)).setIfInBounds (o + 3) (.pointer none) = c := ⟨_, rfl⟩
  rw [hc2] at hr q4
  have HC : Hid ((cur.setIfInBounds (o + 2) (.pointer none)).setIfInBounds (o + 3) (.pointer none) = cur2) := hc2
  clear hc2
  replace hr := hr.below (Below.refl w2.heap.size w2).drew
  replace i1 := i1.below (Below.refl w2.heap.size w2).drew
  replace i2 := i2.below (Below.refl w2.heap.size w2).drew
  replace ch := ch.then_below (Below.refl w2.heap.size w2).drew
  have hkp : ∀ wr, IsRow wr L cur2 → IsI wr (.slice (some ⟨g2, o2, none⟩) (F.length + 1) p2) (s :: F) → wr.cell? ⟨g2, o2, none⟩ = some (.int .i64 (s : Nat)) ∧ wr.cell? ⟨L, o + 4, none⟩ = some (.int .i64 (s : Nat)) := fun wr a b => ⟨b.cell 0 (by simp), a.cell q4⟩
  have hxs : F.length ≤ 65536 := by omega
  have hs2 : ∀ wr, IsI wr (.slice (some ⟨g2, o2, none⟩) (F.length + 1) p2) (s :: F) → IsI wr (.slice a1 F.length p1) F → Calls Try.prog 18 #[.slice (if p2 = 1 then some ⟨g2, o2, none⟩ else some ⟨g2, o2 + 1, none⟩) F.length (p2 - 1), .slice a1 F.length p1] wr fun e w' => e = .returned (.bool true) ∧ Below wr.heap.size wr w' := fun wr a b => same_yes a.tails b hxs
  generalize F.length = fl at *
  have hw1 : IntKind.i64.wrap ((fl : Int) + 1) = (fl : Int) + 1 := by rw [IntKind.wrap_i64]; omega
  by_cases hq : p2 = 1
  · subst hq
    simp only [if_true, Nat.sub_self] at hs2
    have hs3 : ∀ wr, IsI wr (.slice (some ⟨g2, o2, none⟩) (fl + 1) 1) (s :: F) → IsI wr (.slice a1 fl p1) F → Calls Try.prog 18 #[.slice (some ⟨g2, o2, none⟩) 0 0, .slice a1 fl p1] wr fun e w' => e = .returned (.bool true) ∧ Below wr.heap.size wr w' := fun wr a b => by
      have e0 : fl = 0 := by omega
      subst e0
      exact hs2 wr a b
    replace hs2 := hs3
    clear hs3
    go_region_held (fun wr => wr.cell? ⟨g2, o2, none⟩ = some (.int .i64 (s : Nat)) ∧ wr.cell? ⟨L, o + 4, none⟩ = some (.int .i64 (s : Nat))) (with_reducible exact hkp _ hr i2) (first
      | (go_at_call 18; with_reducible refine (hs2 _ i2 i1).mono ?_; rintro e w6 ⟨rfl, hb⟩; replace hr := hr.below hb; replace i2 := i2.below hb; replace ch := ch.then_below hb))
    go_wp2
    go_ret
    exact ⟨rfl, by rw [HC.out]; exact hr, ch⟩
  · simp only [hq, if_false] at hs2
    go_region_held (fun wr => wr.cell? ⟨g2, o2, none⟩ = some (.int .i64 (s : Nat)) ∧ wr.cell? ⟨L, o + 4, none⟩ = some (.int .i64 (s : Nat))) (with_reducible exact hkp _ hr i2) (first
      | (go_at_call 18; with_reducible refine (hs2 _ i2 i1).mono ?_; rintro e w6 ⟨rfl, hb⟩; replace hr := hr.below hb; replace i2 := i2.below hb; replace ch := ch.then_below hb))
    go_wp2
    go_ret
    exact ⟨rfl, by rw [HC.out]; exact hr, ch⟩

set_option maxHeartbeats 2000000 in
theorem over_empty {w : World} {L o P : Nat} {cur : Array Value} {v1 v2 : Value} {K : Cf} {p : PS} (hr : IsRow w L cur) (h2 : cur[o + 2]? = some (.pointer (some ⟨P, 0, none⟩)))
    (hp : IsPopS w P K p) (hp1 : p.sl = -1) (hp2 : p.em = true) (hPL : P ≠ L) (i1 : IsI w v1 []) (i2 : IsI w v2 []) :
    Calls Try.prog 31 #[.pointer (some ⟨L, o, none⟩), v1, v2] w fun e w' => e = .returned (.bool true) ∧ IsRow w' L (cur.setIfInBounds (o + 2) (.pointer none)) ∧ Chg [L] w w' := by
  obtain ⟨a1, p1, rfl, _, _⟩ := i1.form
  obtain ⟨a2, p2, rfl, _, _⟩ := i2.form
  simp only [List.length_nil]
  have ch := Chg.refl [L] w
  have c2 := hr.cell h2
  have fz := hr.free
  have z0 := hp.c0 hp1
  have z1 := hp.c1 hp2
  go_enter Try.func31, Try.ntmps31
  go_upto_region 3 with fail
  replace hr := hr.set (o + 2) (.pointer none)
  replace ch := ch.setCell (b := L) (o := o + 2) (by simp) (.pointer none)
  replace hp : IsPopS (w.setCell ⟨L, o + 2, none⟩ (.pointer none)) P K p := hp.chg ((Chg.refl [L] w).setCell (by simp) _) (by simp [hPL])
  clear c2 fz z0 z1
  generalize w.setCell ⟨L, o + 2, none⟩ (.pointer none) = w2 at *
  have z0 := hp.c0 hp1
  have z1 := hp.c1 hp2
  go_wp2
  go_ret
  exact ⟨rfl, hr, ch⟩

/-- The law on append at a step of a region that draws. -/
theorem step_append_ints {w : World} {ops : Array Oper} {o : Oper} {a : Act} {K : Act → World → Prop} {Q : Exit → Act → World → Prop} {E : Prop} (hgd : o.guard = none) (s x : Operand)
    (ho : o.op = .call { callee := .builtin .append, args := #[s, x], argTypes := #[25, 25] })
    (v : Value) (xs ys : List Nat) (hs : a.eval s = v) (hI : IsI w v xs) (ad : Addr) (n c : Nat) (hx : a.eval x = .slice (some ad) n c) (hn : n = ys.length) (hy : ys ≠ [])
    (hys : ∀ j u, (ints ys)[j]? = some u → w.cell? (ad.add j) = some u) (hl : xs.length + ys.length ≤ 1000000)
    (h : ∀ v' w', IsI w' v' (xs ++ ys) → w.grownBy w' v.ownBlock → (v'.ownBlock = v.ownBlock ∨ ∃ g, v'.ownBlock = some g ∧ w.heap.size ≤ g) → K (a.put o.dst v') w') :
    if Region.wanted o (yielded ops a.tmps) = true then Oper.wp Try.prog o a w K Q else E := by
  have hw : Region.wanted o (yielded ops a.tmps) = true := by simp [Region.wanted, hgd]
  rw [if_pos hw]
  subst hn
  obtain ⟨v', w', hr, h2, h3, h4⟩ := run_append_ints hI o.type ad c hy hys hl
  unfold Oper.wp execOp
  simp only [ho, resolve, invoke, builtin, Sem.run_bind, Sem.run_pure, Result.andThen_ok, List.map_toArray, List.map_cons, List.map_nil, hs, hx, hr]
  exact h v' w' h2 h3 h4
end Go.Proofs.Ytcfallaekedmkaa
