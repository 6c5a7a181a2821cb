/- The contract of the law's own 'over' where a slot was taken. -/
import Derived.Test.YtcfallaekedmkaaSOver
import Derived.Deep.RegionLaw
namespace Go.Proofs.Ytcfallaekedmkaa
open Go.RowKit
set_option linter.unusedVariables false

theorem grown_row {wr w1 : World} {o : Obj} {v : Value} {L : Nat} {cur : Array Value} (hg : (wr.alloc o).grownBy w1 v.ownBlock) (hn : ∀ r, v.ownBlock = some r → r ≠ L) (h : IsRow wr L cur) : IsRow w1 L cur :=
  (hg.block L (by simp; have := h.lt; omega) (fun e => hn L e.symm rfl)).trans ((h.below (alloc_below wr o)))
theorem grown_I {wr w1 : World} {o : Obj} {v u : Value} {xs : List Nat} (hg : (wr.alloc o).grownBy w1 v.ownBlock) (hn : ∀ r, v.ownBlock = some r → u.ownBlock ≠ some r) (h : IsI wr u xs) : IsI w1 u xs :=
  h.kept fun g hgu => (hg.block g (by simp; have := h.lt hgu; omega) (fun e => hn g e.symm hgu)).trans ((alloc_below wr o).block g (h.lt hgu))
theorem grown_chg {wr w1 : World} {o : Obj} {v : Value} (hg : (wr.alloc o).grownBy w1 v.ownBlock) : Chg v.ownBlock.toList wr w1 :=
  ⟨hg.os, hg.tape, hg.output, Nat.le_trans (by simp) hg.size, fun i hi hn => (hg.block i (by simp; omega) (fun e => hn (by rw [← e]; simp))).trans ((alloc_below wr o).block i hi)⟩

set_option maxHeartbeats 4000000 in
theorem over_pop {w : World} {L o P : Nat} {cur : Array Value} {F hs : List Nat} {s : Nat} {v0 v1 v2 : Value} {K : Cf} {p : PS} (hr : IsRow w L cur) (h0 : cur[o]? = some v0) (h2 : cur[o + 2]? = some (.pointer (some ⟨P, 0, none⟩)))
    (hp : IsPopS w P K p) (hp1 : p.sl = (s : Int)) (hp2 : p.em = false) (hPL : P ≠ L) (i0 : IsI w v0 hs) (i1 : IsI w v1 (s :: F)) (i2 : IsI w v2 F)
    (n0 : ∀ r, v0.ownBlock = some r → r ≠ L ∧ r ≠ P ∧ v1.ownBlock ≠ some r ∧ v2.ownBlock ≠ some r) (n1 : ∀ r, v1.ownBlock = some r → r ≠ L) (n2 : ∀ r, v2.ownBlock = some r → r ≠ L) (hl : F.length ≤ 64) (hl0 : hs.length ≤ 64) :
    Calls Try.prog 31 #[.pointer (some ⟨L, o, none⟩), v1, v2] w fun e w' => e = .returned (.bool true) ∧ ∃ v', IsI w' v' (hs ++ [s]) ∧ IsRow w' L ((cur.setIfInBounds (o + 2) (.pointer none)).setIfInBounds o v') ∧ Chg (L :: v0.ownBlock.toList) w w' ∧ (v'.ownBlock = v0.ownBlock ∨ ∃ g, v'.ownBlock = some g ∧ w.heap.size ≤ g) := by
  obtain ⟨a1, p1, rfl, hp1b, f1⟩ := i1.form
  obtain ⟨g1, o1, rfl⟩ := f1 (by simp)
  obtain ⟨a2, p2, rfl, _, _⟩ := i2.form
  rw [List.length_cons] at *
  have ch : Chg (L :: v0.ownBlock.toList) w w := Chg.refl _ w
  have hsz : w.heap.size ≤ w.heap.size := Nat.le_refl _
  have c2 := hr.cell h2
  have fz := hr.free
  go_enter Try.func31, Try.ntmps31
  go_upto_region 3 with fail
  replace hr := hr.set (o + 2) (.pointer none)
  replace i0 := i0.set (i := o + 2) (fun r h => (n0 r h).1) (.pointer none)
  replace i1 := i1.set (i := o + 2) n1 (.pointer none)
  replace i2 := i2.set (i := o + 2) n2 (.pointer none)
  replace ch := ch.setCell (b := L) (o := o + 2) (by simp) (.pointer none)
  replace hp : IsPopS (w.setCell ⟨L, o + 2, none⟩ (.pointer none)) P K p := hp.chg ((Chg.refl [L] w).setCell (by simp) _) (by simp [hPL])
  replace hsz : w.heap.size ≤ (w.setCell ⟨L, o + 2, none⟩ (.pointer none)).heap.size := ch.size
  clear c2 fz
  generalize w.setCell ⟨L, o + 2, none⟩ (.pointer none) = w2 at *
  have q0 : (cur.setIfInBounds (o + 2) (.pointer none))[o]? = some v0 := by rw [set_ne (by omega)]; exact h0
  obtain ⟨cur2, hc2⟩ : ∃ c, cur.setIfInBounds (o + 2) (.pointer none) = c := ⟨_, rfl⟩
  rw [hc2] at hr q0
  have HC : Hid (cur.setIfInBounds (o + 2) (.pointer none) = cur2) := hc2
  clear hc2 h0 h2
  have c0 := hr.cell q0
  have z0 := hp.c0 hp1
  have z1 := hp.c1 hp2
  have fz := hr.free
  go_upto_region 8 with fail
  have hlt0 := hr.lt
  have hPlt := hp.lt
  replace hr := hr.below (Below.refl w2.heap.size w2).drew
  replace i0 := i0.below (Below.refl w2.heap.size w2).drew
  replace i1 := i1.below (Below.refl w2.heap.size w2).drew
  replace i2 := i2.below (Below.refl w2.heap.size w2).drew
  replace ch := ch.then_below (Below.refl w2.heap.size w2).drew
  have hll : hs.length + [s].length ≤ 1000000 := by simp; omega
  have hfin : ∀ w4, (w2.drew.alloc (.cells #[.int .i64 (s : Nat)] 3)).grownBy w4 v0.ownBlock → IsRow w4 L cur2 ∧ w4.cell? ⟨L, o, none⟩ = some v0 ∧ w4.frozen? ⟨L, o, none⟩ = false := fun w4 hg => by
    have h4 := grown_row hg (fun r h => (n0 r h).1) hr
    exact ⟨h4, h4.cell q0, h4.free o⟩
  go_region_law (first
    | (refine step_append_ints (by rfl) _ _ (by rfl) v0 hs [s] (by rfl) (i0.below (alloc_below _ _)) ⟨_, 0, none⟩ 1 1 (by rfl) rfl (by simp) (one_new _ _ _) hll ?_; intro v' w4 hI' hg hp'; obtain ⟨ad', cp', rfl, _, _⟩ := hI'.form; obtain ⟨hr4, c04, f04⟩ := hfin _ hg))
  all_goals
    have hg' : (w2.drew.alloc (.cells #[.int .i64 (s : Nat)] 3)).grownBy w4 v0.ownBlock := hg
    have hsz2 : w2.heap.size + 1 ≤ w4.heap.size := by have := hg'.size; simpa using this
    replace i1 := (grown_I hg' (fun r h => (n0 r h).2.2.1) i1).set (i := o) n1 (.slice ad' (hs ++ [s]).length cp')
    replace i2 := (grown_I hg' (fun r h => (n0 r h).2.2.2) i2).set (i := o) n2 (.slice ad' (hs ++ [s]).length cp')
    replace hr := hr4.set o (.slice ad' (hs ++ [s]).length cp')
    have nI : ∀ r, (Value.slice ad' (hs ++ [s]).length cp').ownBlock = some r → r ≠ L := fun r h => by
      rcases hp' with e | ⟨g', e, hg3⟩
      · exact (n0 r (e ▸ h)).1
      · rw [h] at e
        simp at e hg3
        omega
    have hpl : (Value.slice ad' (hs ++ [s]).length cp').ownBlock = v0.ownBlock ∨ ∃ g, (Value.slice ad' (hs ++ [s]).length cp').ownBlock = some g ∧ w.heap.size ≤ g := by
      rcases hp' with e | ⟨g', e, hg3⟩
      · exact .inl e
      · exact .inr ⟨g', e, by simp at hg3; omega⟩
    replace hI' := hI'.set (i := o) nI (.slice ad' (hs ++ [s]).length cp')
    have hch2 : Chg (L :: v0.ownBlock.toList) w2.drew w4 := (grown_chg hg').mono (fun i hi => .inl (by simp [hi]))
    have hpc : IsPopS w4 P K p := (hp.below (Below.refl w2.heap.size w2).drew).chg (grown_chg hg') (fun h => by
      have : v0.ownBlock = some P := by simpa using h
      exact (n0 P this).2.1 rfl)
    replace hp : IsPopS (w4.setCell ⟨L, o, none⟩ (.slice ad' (hs ++ [s]).length cp')) P K p := hpc.chg ((Chg.refl [L] w4).setCell (by simp) _) (by simp [hPL])
    replace ch := (ch.trans hch2).setCell (b := L) (o := o) (by simp) (.slice ad' (hs ++ [s]).length cp')
    clear hg hg' hp' hr4 c04 f04 hfin c0 z0 z1 fz i0 hch2 hpc hll
    rw [List.length_append, List.length_singleton] at *
    generalize w4.setCell ⟨L, o, none⟩ (.slice ad' (hs.length + 1) cp') = w5 at *
    have z0 := hp.c0 hp1
    go_upto_region 9 with fail
    clear z0
    replace hr := hr.below (Below.refl w5.heap.size w5).drew
    replace i1 := i1.below (Below.refl w5.heap.size w5).drew
    replace i2 := i2.below (Below.refl w5.heap.size w5).drew
    replace hI' := hI'.below (Below.refl w5.heap.size w5).drew
    replace hp := hp.below (Below.refl w5.heap.size w5).drew
    replace ch := ch.then_below (Below.refl w5.heap.size w5).drew
    have hkp : ∀ wr, IsPopS wr P K p → IsI wr (.slice (some ⟨g1, o1, none⟩) (F.length + 1) p1) (s :: F) → wr.cell? ⟨g1, o1, none⟩ = some (.int .i64 (s : Nat)) ∧ wr.cell? ⟨P, 0, none⟩ = some (.int .i64 (s : Nat)) := fun wr a b => ⟨b.cell 0 (by simp), a.c0 hp1⟩
    have hxs : F.length ≤ 65536 := by omega
    have hs2 : ∀ wr, IsI wr (.slice (some ⟨g1, o1, none⟩) (F.length + 1) p1) (s :: F) → IsI wr (.slice a2 F.length p2) F → Calls Try.prog 18 #[.slice (if p1 = 1 then some ⟨g1, o1, none⟩ else some ⟨g1, o1 + 1, none⟩) F.length (p1 - 1), .slice a2 F.length p2] wr fun e w' => e = .returned (.bool true) ∧ Below wr.heap.size wr w' := fun wr a b => same_yes a.tails b hxs
    generalize F.length = fl at *
    have hpos : (0 : Int) < (fl : Int) + 1 := by omega
    by_cases hq : p1 = 1
    · subst hq
      simp only [if_true, Nat.sub_self] at hs2
      have hs3 : ∀ wr, IsI wr (.slice (some ⟨g1, o1, none⟩) (fl + 1) 1) (s :: F) → IsI wr (.slice a2 fl p2) F → Calls Try.prog 18 #[.slice (some ⟨g1, o1, none⟩) 0 0, .slice a2 fl p2] wr fun e w' => e = .returned (.bool true) ∧ Below wr.heap.size wr w' := fun wr a b => by
        have e0 : fl = 0 := by omega
        subst e0
        exact hs2 wr a b
      replace hs2 := hs3
      clear hs3
      go_region_held (fun wr => wr.cell? ⟨g1, o1, none⟩ = some (.int .i64 (s : Nat)) ∧ wr.cell? ⟨P, 0, none⟩ = some (.int .i64 (s : Nat))) (with_reducible exact hkp _ hp i1) (first
        | (go_at_call 18; with_reducible refine (hs2 _ i1 i2).mono ?_; rintro e w6 ⟨rfl, hb⟩; replace hr := hr.below hb; replace i1 := i1.below hb; replace hp := hp.below hb; replace hI' := hI'.below hb; replace ch := ch.then_below hb))
      go_wp2
      go_ret
      exact ⟨rfl, _, hI', by rw [HC.out]; exact hr, ch, hpl⟩
    · simp only [hq, if_false] at hs2
      go_region_held (fun wr => wr.cell? ⟨g1, o1, none⟩ = some (.int .i64 (s : Nat)) ∧ wr.cell? ⟨P, 0, none⟩ = some (.int .i64 (s : Nat))) (with_reducible exact hkp _ hp i1) (first
        | (go_at_call 18; with_reducible refine (hs2 _ i1 i2).mono ?_; rintro e w6 ⟨rfl, hb⟩; replace hr := hr.below hb; replace i1 := i1.below hb; replace hp := hp.below hb; replace hI' := hI'.below hb; replace ch := ch.then_below hb))
      go_wp2
      go_ret
      exact ⟨rfl, _, hI', by rw [HC.out]; exact hr, ch, hpl⟩
end Go.Proofs.Ytcfallaekedmkaa
