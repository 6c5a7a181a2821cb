/- What a hand's seeing comes to. -/
import Derived.Test.YtnegdabcjnhpdaaDoorGH
import Derived.Deep.AppendLies
import Derived.Test.YtnegdabcjnhpdaaDoorGF
import Derived.BigQuiet
import Derived.BigRegion
import Derived.Deep.RegionHeld3
import Derived.Test.YtnegdabcjnhpdaaDoorGK
import Derived.Test.YtnegdabcjnhpdaaDoorGG
namespace Go.Proofs.YtnegdabcjnhpdaaDoor
open Go.RowKit
open Mm (IsMem MS touched Only)
open Hh (WT)
def Mc.is3 : Mc → Prop
  | .turn _ => True
  | .see _ _ _ _ _ => True
  | _ => False
/-- Behind a step of a hand that turns the clock, or sees. -/
def Sen (w w' : World) (lo Wb H M G B : Nat) (C : Array Value) (o : Nat) (L : List Nat) (x : Option Mc × Wl) : Prop :=
  ∃ C' v', Ix w w' lo Wb H M G B L x.2 v' C' ∧ Same C C' o (o + 9) ∧ C'[o]? = C[o]? ∧
    (match x.1 with
      | none => C'[o + 1]? = some (.pointer none) ∧ C'[o + 5]? = some (.pointer none) ∧ C'[o + 6]? = some (.int .i64 0)
      | some mc => C'[o + 1]? = C[o + 1]? ∧ ∃ own', McAt w' lo M G B C' o own' mc ∧ ∀ i ∈ own', i ∈ L ∨ (w.heap.size ≤ i ∧ lo ≤ i ∧ i ≠ Wb ∧ i ≠ H ∧ i ≠ M ∧ i ≠ G ∧ i ≠ B))
theorem Tu.view_lt {t : Tu} {g : Gs} (hp : t.pc = 0 ∨ t.pc = 1) (hok : t.Ok) (h : (t.step g).1.pc = 2) : (t.step g).1.view < 18446744073709551616 := by
  unfold Tu.step at h ⊢
  by_cases e : t.pc = 0
  · rw [if_pos e] at h
    exact absurd h (by show ¬ (1 : Int) = 2; omega)
  · rw [if_neg e, if_pos (by omega)]
    exact hok.clock
theorem Ix.new_ne {w wr : World} {lo Wb H M G B : Nat} {L : List Nat} {u : Wl} {v : Value} {C : Array Value} (h : Ix w wr lo Wb H M G B L u v C) {P : Nat} (hP : wr.heap.size ≤ P) : w.heap.size ≤ P ∧ lo ≤ P ∧ P ≠ Wb ∧ P ≠ H ∧ P ≠ M ∧ P ≠ G ∧ P ≠ B := by
  have hM := h.t.gw.mem.lt
  have hB : B < wr.heap.size := by obtain ⟨_, _, x⟩ := h.t.gw.book; exact x.lt
  have hW := lt_of_block h.t.blk
  have hH := lt_of_block h.hb
  have hl := h.t.gw.lo1
  have := h.cd.size
  omega
theorem GW.chg2 {w w' : World} {lo M G B N : Nat} {g : Gs} {L : List Nat} (h : GW w lo M G B N g) (ch : Chg L w w') (hn : M ∉ L ∧ G ∉ L ∧ B ∉ L) (h0 : 0 ∉ L) (hL : ∀ i ∈ L, (w.heap.size ≤ i ∨ ∃ c t f, w.heap[i]? = some (.cells c t f))) : GW w' lo M G B N g := by
  have hl1 := h.lo1
  refine ⟨h.mem.chg ch hn.1 hn.2.1, ?_, WT.chg h.wt ch h0, h.len, h.tb, h.now, h.ne, by have := ch.size; omega⟩
  obtain ⟨mb, mt, x⟩ := h.book
  exact ⟨mb, mt, x.chg ch hn.2.2 hL⟩
/-- The hand's own row of values has grown. -/
theorem Ix.grownV {w wr w2 : World} {lo Wb H M G B : Nat} {L : List Nat} {u : Wl} {v vr : Value} {C : Array Value} {n : Nat} {xs : List Value} (h : Ix w wr lo Wb H M G B L u v C) (hv : ∀ i ∈ vr.ownBlock.toList, i ∈ L) (hrow : wr.ownsRow lo 3 1 vr n xs) (hg : wr.grownBy w2 vr.ownBlock) : Ix w w2 lo Wb H M G B L u v C := by
  have c1 : Chg vr.ownBlock.toList wr w2 := ⟨hg.os, hg.tape, hg.output, hg.size, fun i hi hn => hg.block i hi fun e => hn (by rw [← e]; simp)⟩
  have hr : ∀ i ∈ vr.ownBlock.toList, ∃ cc, wr.heap[i]? = some (.cells cc 3 (0, 0)) := fun i hi => by
    obtain ⟨_, ⟨rfl, _⟩ | ⟨g', cap', cur, rfl, _, h3, _⟩⟩ := hrow
    · simp [Value.ownBlock] at hi
    · simp [Value.ownBlock] at hi
      subst hi
      exact ⟨cur, h3⟩
  have far := fun i hi => h.l i (hv i hi)
  have lo1 := h.t.gw.lo1
  have gw2 : GW w2 lo M G B KC.N u.g := h.t.gw.chg2 c1 ⟨fun hm => by have := far M hm; omega, fun hm => by have := far G hm; omega, fun hm => by have := far B hm; omega⟩ (fun hm => by have := far 0 hm; omega) fun i hi => by
    obtain ⟨cc, e⟩ := hr i hi
    exact .inr ⟨_, _, _, e⟩
  have := h.mach (L' := vr.ownBlock.toList) gw2 (Cm.of_chg (c1.mono fun i hi => .inl (by simp at hi ⊢; simp [hi]))) (fun i hi => .inl (hv i hi)) (fun i hi => by
    obtain ⟨cc, e⟩ := hr i hi
    exact ⟨cc, 3, e, by decide, by decide⟩)
  exact this
theorem infoS3 : (Tryd.prog.info? 3).map (fun i => (i.zero, i.size, i.bytes)) = some (some (.int .i64 0), 1, 8) := by kernel_rfl
/-- One more value is appended. -/
theorem appendedV {wr : World} {lo : Nat} {vr : Value} {n : Nat} {xs : List Value} (h : wr.ownsRow lo 3 1 vr n xs) (hlo : lo ≤ wr.heap.size) (hn : n < 1000) (z : Int) :
    ∃ g cap w2, (Builtin.append_ #[23, 23] 23 #[vr, .slice (some ⟨wr.heap.size, 0, none⟩) 1 1]).run Tryd.prog (wr.alloc (.cells #[.int .i64 z] 3)) = .ok (.slice (some ⟨g, 0, none⟩) (n + 1) cap) w2 ∧
      (wr.alloc (.cells #[.int .i64 z] 3)).grownBy w2 vr.ownBlock ∧ w2.ownsRow lo 3 1 (.slice (some ⟨g, 0, none⟩) (n + 1) cap) (n + 1) (xs ++ [.int .i64 z]) ∧ (vr.ownBlock = some g ∨ g = (wr.alloc (.cells #[.int .i64 z] 3)).heap.size) := by
  obtain ⟨i, hi, hz, hs, hb⟩ := info_parts infoS3
  have h1 := own_below h (alloc_below wr (.cells #[.int .i64 z] 3))
  obtain ⟨g, cap, w2, r1, r2, r3, r4, _⟩ := run_append_lies (P := Tryd.prog) (wr.alloc (.cells #[.int .i64 z] 3)) 23 23 lo 3 i _ 1 8 Tryd.underlying23 hi hz hs hb rfl (by omega) vr n xs h1 ⟨wr.heap.size, 0, none⟩ 1 1 [.int .i64 z] rfl
    (World.news_of_block (cs := #[.int .i64 z]) (t := 3) (fr := (0, 0)) (heap_alloc_new _ _)) (by simp [Value.oneCell']) (by omega) (by unfold maxLen; omega) (by omega) (by have := (alloc_below wr (.cells #[.int .i64 z] 3)).size; omega) _ rfl
  exact ⟨g, cap, w2, r1, r3, r2, r4⟩
end Go.Proofs.YtnegdabcjnhpdaaDoor
/- A hand that turns the clock goes on. -/
namespace Go.Proofs.YtnegdabcjnhpdaaDoor
open Go.RowKit
open Mm (IsMem MS touched Only)
open Hh (WT)
set_option maxRecDepth 100000 in
set_option maxHeartbeats 16000000 in
theorem sees_turn {w : World} {lo Wb H M G B : Nat} {L own : List Nat} {u : Wl} {v : Value} {C : Array Value} {o : Nat} {a : Ac} {t : Tu} {x0 x1 x2 x3 : Int}
    (ix : Ix w w lo Wb H M G B L u v C) (hm : McAt w lo M G B C o own (.turn t)) (hL : ∀ i ∈ own, i ∈ L) (hsz : o + 10 ≤ C.size) (hp01 : t.pc = 0 ∨ t.pc = 1) (hT : u.g.T + 3 < 4611686018427387904) :
    Calls Tryd.prog 35 #[.pointer (some ⟨H, o, none⟩), .pointer (some ⟨Wb, 0, none⟩), .agg #[.int .i64 x0, .int .i64 x1, .int .i64 x2, .int .i64 x3]] w fun e w' => e = .returned (.tuple #[]) ∧ Sen w w' lo Wb H M G B C o L (mstep B 0 a (.turn t) u) := by
  obtain ⟨Rz, hRz⟩ : ∃ Rz : World → Prop, Hid (Rz = fun w' => Sen w w' lo Wb H M G B C o L (mstep B 0 a (.turn t) u)) := ⟨_, rfl⟩
  refine Calls.mono (show Calls Tryd.prog 35 #[.pointer (some ⟨H, o, none⟩), .pointer (some ⟨Wb, 0, none⟩), .agg #[.int .i64 x0, .int .i64 x1, .int .i64 x2, .int .i64 x3]] w (fun e w' => e = .returned (.tuple #[]) ∧ Rz w') from ?_) (fun e w' h => by rw [hRz.out] at h; exact h)
  obtain ⟨h5, h6, P, c, h4, hown, hP, hTu, hok⟩ := hm
  have hPm : P ∈ L := hL P (by rw [hown]; simp)
  have hTs := t.step_T u.g
  have cU : ∀ wr, Ix w wr lo Wb H M G B L u v C → wr.heap[P]? = some (.cells c 70 (0, 0)) → Calls Tryd.prog 19 #[.pointer (some ⟨P, 0, none⟩), .pointer (some ⟨M, 0, none⟩)] wr fun e w' => e = .returned (.bool (decide ((t.step u.g).1.pc = 2))) ∧ ∃ c', Ix w w' lo Wb H M G B L { u with g := (t.step u.g).2 } v C ∧ w'.heap[P]? = some (.cells c' 70 (0, 0)) ∧ TuAt c' B (t.step u.g).1 := fun wr x hp =>
    (tu_any (x.inF hp hPm) hTu hok (by omega) (by rw [KC_N]; omega)).mono fun _ _ ⟨e1, c', i2, i3⟩ => ⟨e1, c', x.stepped hp hPm (by decide) i2, i2.blk, i3⟩
  have hto := Tu.step_ok hok (ix.t.gw.mem.fits 0)
  have hvw := Tu.view_lt (g := u.g) hp01 hok
  have hfd : (t.step u.g).1.pc = 2 → mstep B 0 a (.turn t) u = (some (seeM 0 (t.step u.g).1.view [] (t.step u.g).1.point), { u with g := (t.step u.g).2 }) := fun h => by simp only [mstep, h, if_true]
  have hfn : ¬ (t.step u.g).1.pc = 2 → mstep B 0 a (.turn t) u = (some (.turn (t.step u.g).1), { u with g := (t.step u.g).2 }) := fun h => by simp only [mstep, h, if_false]
  generalize t.step u.g = tg at *
  obtain ⟨t', g'⟩ := tg
  simp only at hTs cU hto hvw hfd hfn
  have hS : ∀ wr u v, Ix w wr lo Wb H M G B L u v C → wr.cell? ⟨H, o + 4, none⟩ = some (.pointer (some ⟨P, 0, none⟩)) ∧ wr.cell? ⟨Wb, 6, none⟩ = some (.pointer (some ⟨M, 0, none⟩)) := fun wr u v x => ⟨x.cellH h4, x.cellW rfl⟩
  have m5 := ix.cellH h5
  have m6 := ix.cellH h6
  go_enter Tryd.func35, Tryd.ntmps35
  go_upto_region 1 with fail
  have bA := alloc_below w (.cells #[.int .i64 x0, .int .i64 x1, .int .i64 x2, .int .i64 x3] 84)
  replace ix := ix.below bA
  replace hP := (bA.block P (lt_of_block hP)).trans hP
  replace m5 := ix.cellH h5
  replace m6 := ix.cellH h6
  clear bA
  generalize w.alloc (.cells #[.int .i64 x0, .int .i64 x1, .int .i64 x2, .int .i64 x3] 84) = w1 at *
  by_cases hpc : t'.pc = 2
  · rw [show decide (t'.pc = 2) = true by simp [hpc]] at cU
    replace hfd := hfd hpc
    have hpc' := hpc
    clear hpc hfn
    replace hpc' : Hid (t'.pc = 2) := hpc'
    go_upto_region 2 with fail
    have ix := ix.drew
    replace hP : w1.drew.heap[P]? = _ := hP
    clear m5 m6
    go_region_held (fun wr => wr.cell? ⟨H, o + 4, none⟩ = some (.pointer (some ⟨P, 0, none⟩)) ∧ wr.cell? ⟨Wb, 6, none⟩ = some (.pointer (some ⟨M, 0, none⟩))) (first | with_reducible exact hS _ _ _ ix | with_reducible exact hS _ _ _ i2)
      ((go_at_call 19; with_reducible refine (cU _ ix hP).mono ?_; rintro e w3 ⟨rfl, c', i2, hP', hT'⟩))
    have m4 := i2.cellH h4
    have p0 : w3.cell? ⟨P, 0, none⟩ = some (.int .u64 (t'.view : Nat)) := Blk.cell (t := 70) hP' hT'.view
    have p1 : w3.cell? ⟨P, 1, none⟩ = some (.int .i64 t'.point) := Blk.cell (t := 70) hP' hT'.point
    obtain ⟨v7, hv7⟩ : ∃ v7, C[o + 7]? = some v7 := ⟨_, Array.getElem?_eq_some_iff.2 ⟨by omega, rfl⟩⟩
    obtain ⟨v8, hv8⟩ : ∃ v8, C[o + 8]? = some v8 := ⟨_, Array.getElem?_eq_some_iff.2 ⟨by omega, rfl⟩⟩
    obtain ⟨v9, hv9⟩ : ∃ v9, C[o + 9]? = some v9 := ⟨_, Array.getElem?_eq_some_iff.2 ⟨by omega, rfl⟩⟩
    have f7 := i2.freeH (o + 7)
    have m7 := i2.cellH hv7
    have hvl := hvw hpc'.out
    go_upto_region 4 with fail
    have i3 := i2.setH (o + 7) (.int .u64 (t'.view : Nat))
    have cP : ∀ (C' : Array Value), C'.size = C.size → True := fun _ _ => trivial
    have hP3 : (w3.setCell ⟨H, o + 7, none⟩ (.int .u64 (t'.view : Nat))).heap[P]? = some (.cells c' 70 (0, 0)) := (Below.heap_setCell _ ⟨H, o + 7, none⟩ _ P (by have := i2.l P hPm; show P ≠ H; omega)).trans hP'
    clear m4 p0 p1 f7 m7 i2 hP' cP
    generalize w3.setCell ⟨H, o + 7, none⟩ (.int .u64 (t'.view : Nat)) = w4 at *
    have m4 := i3.cellH (i := o + 4) (by rw [get_set_ne (by omega)]; exact h4)
    have p1 : w4.cell? ⟨P, 1, none⟩ = some (.int .i64 t'.point) := Blk.cell (t := 70) hP3 hT'.point
    have f9 := i3.freeH (o + 9)
    have m9 := i3.cellH (i := o + 9) (by rw [get_set_ne (by omega)]; exact hv9)
    go_upto_region 5 with fail
    have i4 := i3.setH (o + 9) (.int .i64 t'.point)
    clear m4 p1 f9 m9 i3 hP3
    generalize w4.setCell ⟨H, o + 9, none⟩ (.int .i64 t'.point) = w5 at *
    have f8 := i4.freeH (o + 8)
    have m8 := i4.cellH (i := o + 8) (by rw [get_set_ne (by omega), get_set_ne (by omega)]; exact hv8)
    go_upto_region 8 with fail
    have i5 := i4.setH (o + 8) (.slice none 0 0)
    clear f8 m8 i4
    generalize w5.setCell ⟨H, o + 8, none⟩ (.slice none 0 0) = w6 at *
    obtain ⟨C6, hC6⟩ : ∃ C6, ((C.setIfInBounds (o + 7) (.int .u64 (t'.view : Nat))).setIfInBounds (o + 9) (.int .i64 t'.point)).setIfInBounds (o + 8) (.slice none 0 0) = C6 := ⟨_, rfl⟩
    rw [hC6] at i5
    have k6 : C6[o + 6]? = some (.int .i64 0) := by rw [← hC6, get_set_ne (by omega), get_set_ne (by omega), get_set_ne (by omega)]; exact h6
    have k7 : C6[o + 7]? = some (.int .u64 (t'.view : Nat)) := by rw [← hC6, get_set_ne (by omega), get_set_ne (by omega), get_set (by omega)]
    have k8 : C6[o + 8]? = some (.slice none 0 0) := by rw [← hC6, get_set (by simp; omega)]
    have k9 : C6[o + 9]? = some (.int .i64 t'.point) := by rw [← hC6, get_set_ne (by omega), get_set (by simp; omega)]
    have k5 : C6[o + 5]? = some (.pointer none) := by rw [← hC6, get_set_ne (by omega), get_set_ne (by omega), get_set_ne (by omega)]; exact h5
    have k0 : C6[o]? = C[o]? := by rw [← hC6, get_set_ne (by omega), get_set_ne (by omega), get_set_ne (by omega)]
    have k1 : C6[o + 1]? = C[o + 1]? := by rw [← hC6, get_set_ne (by omega), get_set_ne (by omega), get_set_ne (by omega)]
    have ks : Same C C6 o (o + 9) := by rw [← hC6]; exact (Same.set _ _ (by omega)).trans ((Same.set _ _ (by omega)).trans (Same.set _ _ (by omega)))
    have ksz : C6.size = C.size := ks.size
    clear hC6
    have m6 := i5.cellH k6
    have cS := fun (B : Nat) (w : World) => mkSee (f := 0) (v := t'.view) (fz := 0) (by omega) rfl B w
    go_upto_region 16 with fail
    have hS2 : ∀ wr v C, Ix w wr lo Wb H M G B L { u with g := g' } v C → C[o + 6]? = some (.int .i64 0) → C[o + 7]? = some (.int .u64 (t'.view : Nat)) → ((wr.cell? ⟨Wb, 0, none⟩ = some (.int .i64 40) ∧ wr.cell? ⟨Wb, 1, none⟩ = some (.int .i64 3) ∧ wr.cell? ⟨Wb, 2, none⟩ = some (.int .i64 1) ∧ wr.cell? ⟨Wb, 3, none⟩ = some (.int .i64 1) ∧ wr.cell? ⟨Wb, 4, none⟩ = some (.int .i64 9) ∧ wr.cell? ⟨Wb, 5, none⟩ = some (.int .i64 0)) ∧ wr.cell? ⟨Wb, 7, none⟩ = some (.pointer (some ⟨B, 0, none⟩))) ∧ wr.cell? ⟨H, o + 6, none⟩ = some (.int .i64 0) ∧ wr.cell? ⟨H, o + 7, none⟩ = some (.int .u64 (t'.view : Nat)) := fun wr v C x y z => ⟨⟨⟨x.cellW rfl, x.cellW rfl, x.cellW rfl, x.cellW rfl, x.cellW rfl, x.cellW rfl⟩, x.cellW rfl⟩, x.cellH y, x.cellH z⟩
    have ix5 := i5.drew
    clear m6 i5 ix
    have f5 := ix5.freeH (o + 5)
    have m5 := ix5.cellH k5
    have j6 : ∀ p, (C6.setIfInBounds (o + 5) p)[o + 6]? = some (.int .i64 0) := fun p => by rw [get_set_ne (by omega)]; exact k6
    have j7 : ∀ p, (C6.setIfInBounds (o + 5) p)[o + 7]? = some (.int .u64 (t'.view : Nat)) := fun p => by rw [get_set_ne (by omega)]; exact k7
    go_region_held3 (fun wr => ((wr.cell? ⟨Wb, 0, none⟩ = some (.int .i64 40) ∧ wr.cell? ⟨Wb, 1, none⟩ = some (.int .i64 3) ∧ wr.cell? ⟨Wb, 2, none⟩ = some (.int .i64 1) ∧ wr.cell? ⟨Wb, 3, none⟩ = some (.int .i64 1) ∧ wr.cell? ⟨Wb, 4, none⟩ = some (.int .i64 9) ∧ wr.cell? ⟨Wb, 5, none⟩ = some (.int .i64 0)) ∧ wr.cell? ⟨Wb, 7, none⟩ = some (.pointer (some ⟨B, 0, none⟩))) ∧ wr.cell? ⟨H, o + 6, none⟩ = some (.int .i64 0) ∧ wr.cell? ⟨H, o + 7, none⟩ = some (.int .u64 (t'.view : Nat))) (first | with_reducible exact hS2 _ _ _ i7 (j6 _) (j7 _) | with_reducible exact hS2 _ _ _ i6 k6 k7 | with_reducible exact hS2 _ _ _ ix5 k6 k7)
      ((go_at_call 20; with_reducible refine (cS _ _).mono ?_; rintro e w7 ⟨P4, cc, rfl, hP4, hSe, hPl, bb⟩; have hne := ix5.new_ne hPl; have i6 := ix5.below bb; have i7 := i6.setH (o + 5) (.pointer (some ⟨P4, 0, none⟩)); have f5 := i6.freeH (o + 5); have m5 := i6.cellH k5))
    have hP5 : (w7.setCell ⟨H, o + 5, none⟩ (.pointer (some ⟨P4, 0, none⟩))).heap[P4]? = some (.cells cc 73 (0, 0)) := (Below.heap_setCell _ ⟨H, o + 5, none⟩ _ P4 (by show P4 ≠ H; omega)).trans hP4
    clear i6 f5 m5 hP4 ix5 bb hPl
    generalize w7.setCell ⟨H, o + 5, none⟩ (.pointer (some ⟨P4, 0, none⟩)) = w8 at *
    have m6 := i7.cellH (j6 _)
    have f6 := i7.freeH (o + 6)
    go_wp2
    have i8 := i7.setH (o + 6) (.int .i64 1)
    have hP6 : (w8.setCell ⟨H, o + 6, none⟩ (.int .i64 1)).heap[P4]? = some (.cells cc 73 (0, 0)) := (Below.heap_setCell _ ⟨H, o + 6, none⟩ _ P4 (by show P4 ≠ H; omega)).trans hP5
    clear m6 f6 i7
    go_end0
    refine ⟨rfl, ?_⟩
    rw [hRz.out, hfd]
    refine ⟨_, v, i8, ks.trans ((Same.set _ _ (by omega)).trans (Same.set _ _ (by omega))), by rw [get_set_ne (by omega), get_set_ne (by omega)]; exact k0, by rw [get_set_ne (by omega), get_set_ne (by omega)]; exact k1, [P4], ⟨by rw [get_set (by simp; omega)]; rfl, by omega, by omega, rfl, by rw [get_set_ne (by omega)]; exact j7 _, hvl, by rw [get_set_ne (by omega), get_set_ne (by omega)]; exact k9, P4, cc, .slice none 0 0, by rw [get_set_ne (by omega), get_set (by omega)], hP6, hSe, se0_ok (by rw [KC_bd, KC_N]; omega), by rw [get_set_ne (by omega), get_set_ne (by omega)]; exact k8, ⟨rfl, .inl ⟨rfl, rfl⟩⟩, rfl⟩, fun i hi => by simp at hi; subst hi; exact .inr hne⟩
  · rw [show decide (t'.pc = 2) = false by simp [hpc]] at cU
    replace hfn := hfn hpc
    clear hpc hfd
    go_upto_region 2 with fail
    have ix := ix.drew
    replace hP : w1.drew.heap[P]? = _ := hP
    clear m5 m6
    go_region_held (fun wr => wr.cell? ⟨H, o + 4, none⟩ = some (.pointer (some ⟨P, 0, none⟩)) ∧ wr.cell? ⟨Wb, 6, none⟩ = some (.pointer (some ⟨M, 0, none⟩))) (first | with_reducible exact hS _ _ _ ix | with_reducible exact hS _ _ _ i2)
      ((go_at_call 19; with_reducible refine (cU _ ix hP).mono ?_; rintro e w3 ⟨rfl, c', i2, hP', hT'⟩))
    go_wp2
    refine bodyPost_ret (results_none rfl _ _ _) rfl ?_
    refine ⟨rfl, ?_⟩
    rw [hRz.out, hfn]
    exact ⟨C, v, i2, Same.refl _ _ _, rfl, rfl, [P], ⟨h5, h6, P, c', h4, rfl, hP', hT', hto⟩, fun i hi => by simp at hi; rw [hi]; exact .inl hPm⟩
end Go.Proofs.YtnegdabcjnhpdaaDoor
/- A hand that sees goes on. -/
namespace Go.Proofs.YtnegdabcjnhpdaaDoor
open Go.RowKit
open Mm (IsMem MS touched Only)
open Hh (WT)
theorem own_cm {w w' : World} {lo : Nat} {L : List Nat} (c : Cm lo L w w') {v : Value} {n : Nat} {xs : List Value} (h : w.ownsRow lo 3 1 v n xs) (hv : ∀ i ∈ v.ownBlock.toList, i ∉ L) : w'.ownsRow lo 3 1 v n xs := by
  refine ⟨h.1, ?_⟩
  rcases h.2 with hn | ⟨g, cap, cur, rfl, hb', hgg, rest⟩
  · exact .inl hn
  · exact .inr ⟨g, cap, cur, rfl, hb', c.at hgg (hv g (by simp [Value.ownBlock])), rest⟩
theorem row_ne {w : World} {lo : Nat} {v : Value} {n : Nat} {xs : List Value} (h : w.ownsRow lo 3 1 v n xs) {i : Nat} {c : Array Value} {t : TypeId} {f : Nat × Nat} (hi : w.heap[i]? = some (.cells c t f)) (ht : t ≠ 3) : i ∉ v.ownBlock.toList := fun hm => by
  obtain ⟨_, ⟨rfl, _⟩ | ⟨g, cap, cur, rfl, _, h3, _⟩⟩ := h
  · simp [Value.ownBlock] at hm
  · simp [Value.ownBlock] at hm
    subst hm
    rw [hi] at h3
    cases h3
    exact ht rfl
theorem own_at3 {w : World} {base : Nat} {r n cap : Nat} {xs : List Value} (h : w.ownsRow base 3 1 (.slice (some ⟨r, 0, none⟩) n cap) n xs) {j : Nat} {u : Value} (hu : xs[j]? = some u) : w.cell? ⟨r, j, none⟩ = some u := by
  have := h.cells (g := r) rfl j u hu
  have e0 : ∀ o i, (⟨r, o, none⟩ : Addr).add i = ⟨r, o + i, none⟩ := fun o i => by simp [Addr.add]
  have e : (⟨r, 0, none⟩ : Addr).add j = ⟨r, j, none⟩ := by rw [e0, Nat.zero_add]
  rw [e] at this
  exact this
theorem own_block3 {w : World} {base : Nat} {r n cap : Nat} {xs : List Value} (h : w.ownsRow base 3 1 (.slice (some ⟨r, 0, none⟩) n cap) n xs) : ∃ cur, w.heap[r]? = some (.cells cur 3 (0, 0)) := by
  rcases h.2 with ⟨h1, _⟩ | ⟨g, cap', cur, h1, _, hg, _⟩
  · cases h1
  · cases h1
    exact ⟨cur, hg⟩
set_option maxRecDepth 100000 in
set_option maxHeartbeats 16000000 in
theorem sees_see {w : World} {lo Wb H M G B : Nat} {L own : List Nat} {u : Wl} {v : Value} {C : Array Value} {o : Nat} {a : Ac} {s : Se} {n vw : Nat} {l : List Int} {tp : Int} {x0 x1 x2 x3 : Int}
    (ix : Ix w w lo Wb H M G B L u v C) (hm : McAt w lo M G B C o own (.see s n vw l tp)) (hL : ∀ i ∈ own, i ∈ L) (hsz : o + 10 ≤ C.size) (hd : u.done.length + 4 < 1000000) (hT : u.g.T + 3 < 4611686018427387904) :
    Calls Tryd.prog 35 #[.pointer (some ⟨H, o, none⟩), .pointer (some ⟨Wb, 0, none⟩), .agg #[.int .i64 x0, .int .i64 x1, .int .i64 x2, .int .i64 x3]] w fun e w' => e = .returned (.tuple #[]) ∧ Sen w w' lo Wb H M G B C o L (mstep B 0 a (.see s n vw l tp) u) := by
  obtain ⟨Rz, hRz⟩ : ∃ Rz : World → Prop, Hid (Rz = fun w' => Sen w w' lo Wb H M G B C o L (mstep B 0 a (.see s n vw l tp) u)) := ⟨_, rfl⟩
  refine Calls.mono (show Calls Tryd.prog 35 #[.pointer (some ⟨H, o, none⟩), .pointer (some ⟨Wb, 0, none⟩), .agg #[.int .i64 x0, .int .i64 x1, .int .i64 x2, .int .i64 x3]] w (fun e w' => e = .returned (.tuple #[]) ∧ Rz w') from ?_) (fun e w' h => by rw [hRz.out] at h; exact h)
  obtain ⟨h6, n1, n4, hln, h7, hvl, h9, P, c, vr, h5, hP, hSe, hok, h8, hrow, hown⟩ := hm
  have hPm : P ∈ L := hL P (by rw [hown]; simp)
  have hvm : ∀ i ∈ vr.ownBlock.toList, i ∈ L := fun i hi => hL i (by rw [hown]; exact List.mem_cons_of_mem _ hi)
  have hPr := row_ne hrow hP (by decide)
  clear hown
  have hTs := s.step_T KC B u.g
  have cU : ∀ wr, Ix w wr lo Wb H M G B L u v C → wr.heap[P]? = some (.cells c 73 (0, 0)) → wr.ownsRow lo 3 1 vr l.length (l.map fun x => .int .i64 x) → Calls Tryd.prog 21 #[.pointer (some ⟨P, 0, none⟩), .pointer (some ⟨M, 0, none⟩)] wr fun e w' => e = .returned (.bool (decide ((s.step KC B u.g).1.pc = 4))) ∧ ∃ c', Ix w w' lo Wb H M G B L { u with g := (s.step KC B u.g).2 } v C ∧ w'.heap[P]? = some (.cells c' 73 (0, 0)) ∧ SeAt c' B KC (s.step KC B u.g).1 ∧ w'.ownsRow lo 3 1 vr l.length (l.map fun x => .int .i64 x) := fun wr x hp hr =>
    (se_any KC_ok (by decide) (x.inF hp hPm) hSe hok (by omega)).mono fun _ _ ⟨e1, c', i2, i3⟩ => ⟨e1, c', x.stepped hp hPm (by decide) i2, i2.blk, i3, own_cm i2.cm hr fun i hi hm => by
      have := x.l i (hvm i hi)
      simp at hm
      rcases hm with k | k | k | k
      · exact hPr (k ▸ hi)
      · omega
      · omega
      · omega⟩
  have hso := Se.step_ok KC_ok (by decide) hok (ix.t.gw.mem.fits 0) ix.t.gw.now
  have hfd : (s.step KC B u.g).1.pc = 4 → n = 4 → mstep B 0 a (.see s n vw l tp) u = (none, { u with g := (s.step KC B u.g).2, done := u.done ++ four tp (l ++ [(s.step KC B u.g).1.val]) }) := fun h h' => by simp only [mstep, h, h', if_true]
  have hfm : (s.step KC B u.g).1.pc = 4 → ¬ n = 4 → mstep B 0 a (.see s n vw l tp) u = (some (seeM n vw (l ++ [(s.step KC B u.g).1.val]) tp), { u with g := (s.step KC B u.g).2 }) := fun h h' => by simp only [mstep, h, h', if_true, if_false]
  have hfn : ¬ (s.step KC B u.g).1.pc = 4 → mstep B 0 a (.see s n vw l tp) u = (some (.see (s.step KC B u.g).1 n vw l tp), { u with g := (s.step KC B u.g).2 }) := fun h => by simp only [mstep, h, if_false]
  generalize s.step KC B u.g = sg at *
  obtain ⟨s', g'⟩ := sg
  simp only at hTs cU hso hfd hfm hfn
  have hS : ∀ wr u v, Ix w wr lo Wb H M G B L u v C → wr.cell? ⟨H, o + 5, none⟩ = some (.pointer (some ⟨P, 0, none⟩)) ∧ wr.cell? ⟨Wb, 6, none⟩ = some (.pointer (some ⟨M, 0, none⟩)) := fun wr u v x => ⟨x.cellH h5, x.cellW rfl⟩
  replace hln : Hid (l.length + 1 = n) := hln
  go_enter Tryd.func35, Tryd.ntmps35
  go_upto_region 1 with fail
  have bA := alloc_below w (.cells #[.int .i64 x0, .int .i64 x1, .int .i64 x2, .int .i64 x3] 84)
  replace ix := ix.below bA
  replace hP := (bA.block P (lt_of_block hP)).trans hP
  replace hrow := own_below hrow bA
  have m5 := ix.cellH h5
  clear bA
  generalize w.alloc (.cells #[.int .i64 x0, .int .i64 x1, .int .i64 x2, .int .i64 x3] 84) = w1 at *
  by_cases hpc : s'.pc = 4
  · rw [show decide (s'.pc = 4) = true by simp [hpc]] at cU
    replace hfd := hfd hpc
    replace hfm := hfm hpc
    clear hpc hfn
    go_upto_region 6 with fail
    have ix := ix.drew
    replace hP : w1.drew.heap[P]? = _ := hP
    replace hrow := own_below hrow (Below.refl _ _).drew
    clear m5
    go_region_held (fun wr => wr.cell? ⟨H, o + 5, none⟩ = some (.pointer (some ⟨P, 0, none⟩)) ∧ wr.cell? ⟨Wb, 6, none⟩ = some (.pointer (some ⟨M, 0, none⟩))) (first | with_reducible exact hS _ _ _ ix | with_reducible exact hS _ _ _ i2)
      ((go_at_call 21; with_reducible refine (cU _ ix hP hrow).mono ?_; rintro e w3 ⟨rfl, c', i2, hP', hS', hr'⟩))
    go_upto_region 7 with fail
    have i3 := i2.drew
    have hP3 : w3.drew.heap[P]? = some (.cells c' 73 (0, 0)) := hP'
    have hr3 := own_below hr' (Below.refl _ _).drew
    have x8 := i3.cellH h8
    have f8 := i3.freeH (o + 8)
    have m5 := i3.cellH h5
    have p0 : w3.drew.cell? ⟨P, 0, none⟩ = some (.int .i64 s'.val) := Blk.cell (t := 73) hP3 hS'.val
    obtain ⟨z, hz⟩ : ∃ z, s'.val = z := ⟨_, rfl⟩
    rw [hz] at p0 hfd hfm
    have hl1000 : l.length < 1000 := by have := hln.out; omega
    obtain ⟨g, cap, w4, hrun, hgr, how, hat⟩ := appendedV hr3 (by have := i3.t.gw.lo1; omega) hl1000 z
    have i4 := (i3.below (alloc_below w3.drew (.cells #[.int .i64 z] 3))).grownV hvm (own_below hr3 (alloc_below w3.drew (.cells #[.int .i64 z] 3))) hgr
    have y8 : (w3.alloc (.cells #[.int .i64 z] 3)).drew.cell? ⟨H, o + 8, none⟩ = some vr := (i3.below (alloc_below _ (.cells #[.int .i64 z] 3))).cellH h8
    have hrun' : (Builtin.append_ #[23, 23] 23 #[vr, .slice (some ⟨w3.heap.size, 0, none⟩) 1 1]).run Tryd.prog (w3.alloc (.cells #[.int .i64 z] 3)).drew = .ok (.slice (some ⟨g, 0, none⟩) (l.length + 1) cap) w4 := hrun
    have j8 := i4.cellH h8
    have jf := i4.freeH (o + 8)
    have hnew := i3.new_ne (P := (w3.drew.alloc (.cells #[.int .i64 z] 3)).heap.size) (alloc_below w3.drew (.cells #[.int .i64 z] 3)).size
    have hgm : g ∈ L ∨ (w.heap.size ≤ g ∧ lo ≤ g ∧ g ≠ Wb ∧ g ≠ H ∧ g ≠ M ∧ g ≠ G ∧ g ≠ B) := by
      rcases hat with e | e
      · exact .inl (hvm g (by rw [e]; simp))
      · rw [e]; exact .inr hnew
    clear hrun hgr hP3 hS' hP' i2 hr' hat hnew hr3
    simp [go_sem] at hrun'
    go_big_region
    clear hrun' y8 x8 f8 m5 p0 j8 jf i3
    have hr5 := own_cm (lo := lo) (Cm.of_chg ((Chg.refl [H] w4).setCell (b := H) (o := o + 8) (.inl (by simp)) (.slice (some ⟨g, 0, none⟩) (l.length + 1) cap))) how (fun i hi hm => by simp at hm; subst hm; exact row_ne how i4.hb (by decide) hi)
    have i5 := i4.setH (o + 8) (.slice (some ⟨g, 0, none⟩) (l.length + 1) cap)
    clear i4 how
    generalize w4.setCell ⟨H, o + 8, none⟩ _ = w5 at i5 hr5 ⊢
    obtain ⟨l', hl'⟩ : ∃ l', l ++ [z] = l' := ⟨_, rfl⟩
    have hll : l'.length = n := by rw [← hl', List.length_append]; exact hln.out
    have hmap : (l.map fun x => Value.int .i64 x) ++ [.int .i64 z] = l'.map fun x => .int .i64 x := by rw [← hl', List.map_append]; rfl
    rw [hmap] at hr5
    rw [hl'] at hfd hfm
    have hln' := hln.out
    rw [hln'] at hr5 i5
    obtain ⟨C5, hC5⟩ : ∃ C5, C.setIfInBounds (o + 8) (.slice (some ⟨g, 0, none⟩) n cap) = C5 := ⟨_, rfl⟩
    rw [hC5] at i5
    have k0 : C5[o]? = C[o]? := by rw [← hC5, get_set_ne (by omega)]
    have k1 : C5[o + 1]? = C[o + 1]? := by rw [← hC5, get_set_ne (by omega)]
    have k5 : C5[o + 5]? = some (.pointer (some ⟨P, 0, none⟩)) := by rw [← hC5, get_set_ne (by omega)]; exact h5
    have k6 : C5[o + 6]? = some (.int .i64 (n : Nat)) := by rw [← hC5, get_set_ne (by omega)]; exact h6
    have k7 : C5[o + 7]? = some (.int .u64 (vw : Nat)) := by rw [← hC5, get_set_ne (by omega)]; exact h7
    have k8 : C5[o + 8]? = some (.slice (some ⟨g, 0, none⟩) n cap) := by rw [← hC5, get_set (by omega)]
    have k9 : C5[o + 9]? = some (.int .i64 tp) := by rw [← hC5, get_set_ne (by omega)]; exact h9
    have ks : Same C C5 o (o + 9) := by rw [← hC5]; exact Same.set _ _ (by omega)
    have ksz : C5.size = C.size := ks.size
    obtain ⟨v1, hv1⟩ : ∃ v1, C5[o + 1]? = some v1 := ⟨_, Array.getElem?_eq_some_iff.2 ⟨by omega, rfl⟩⟩
    clear hC5 hl' hmap hln hln' hz
    have m6 := i5.cellH k6
    by_cases hn4 : n = 4
    · subst hn4
      replace hfd := hfd rfl
      clear hfm
      have d4 : ∀ j, j < 4 → (four tp l').take (j + 1) = (four tp l').take j ++ [⟨tp, true, ⟨3, (j : Int).tmod 2, 0, 0⟩, l'.getD j 0, false⟩] := fun j hj => by
        rcases (show j = 0 ∨ j = 1 ∨ j = 2 ∨ j = 3 by omega) with rfl | rfl | rfl | rfl <;> rfl
      have lj : ∀ j, j < 4 → (l'.map fun x => Value.int .i64 x)[j]? = some (.int .i64 (l'.getD j 0)) := fun j hj => by
        simp [List.getD_eq_getElem?_getD, show j < l'.length by omega]
      go_wp2
      go_loopw [6] (fun ii wr => ∃ (j : Nat) (v' : Value), j ≤ 4 ∧ ii = .int .i64 j ∧ Ix w wr lo Wb H M G B L ⟨g', u.next, u.done ++ (four tp l').take j, u.bad⟩ v' C5 ∧ wr.ownsRow lo 3 1 (.slice (some ⟨g, 0, none⟩) 4 cap) 4 (l'.map fun x => .int .i64 x)) (fun ii _ => 4 - (intOf ii).toNat)
      case atStart => exact ⟨0, v, by omega, rfl, by simpa using i5, hr5⟩
      case round =>
        clear i5 hr5 m6 ix
        obtain ⟨j, v', hj, rfl, ix, hr⟩ := hrel
        by_cases hj4 : j < 4
        · have hjI : (j : Int) < 4 := by omega
          go_upto_region 12 with fail
          have i3 := ix.drew
          have hr3 := own_below hr (Below.refl _ _).drew
          have x9 : wr.drew.cell? ⟨Wb, 9, none⟩ = some v' := i3.cellW rfl
          have fW9 := i3.freeW 9
          have m9 := i3.cellH k9
          have m8 := i3.cellH k8
          have mj := own_at3 hr3 (lj j hj4)
          have hdl : (u.done ++ (four tp l').take j).length < 1000000 := by simp [four]; omega
          have e1 := d4 j hj4
          obtain ⟨zj, hzj⟩ : ∃ zj, l'.getD j 0 = zj := ⟨_, rfl⟩
          obtain ⟨fj, hfj⟩ : ∃ fj, (j : Int).tmod 2 = fj := ⟨_, rfl⟩
          obtain ⟨ds, hds⟩ : ∃ ds, u.done ++ (four tp l').take j = ds := ⟨_, rfl⟩
          rw [hzj] at mj e1
          rw [hfj] at e1
          rw [hds] at i3 hdl
          obtain ⟨gg, cap', w4, hrun, hgr, how⟩ := appended i3 hdl ⟨tp, true, ⟨3, fj, 0, 0⟩, zj, false⟩
          have i4 := i3.grown hgr how
          obtain ⟨cur, hcur⟩ := own_block3 (own_below hr3 (alloc_below wr.drew (.cells (dnC ⟨tp, true, ⟨3, fj, 0, 0⟩, zj, false⟩).toArray 86)))
          have hr4 := (own_below hr3 (alloc_below wr.drew (.cells (dnC ⟨tp, true, ⟨3, fj, 0, 0⟩, zj, false⟩).toArray 86))).kept hgr (.inr (row_far (i3.below (alloc_below _ _)).t.row hcur (by decide)))
          have hr5 := own_cm (lo := lo) (Cm.of_chg ((Chg.refl [Wb] w4).setCell (b := Wb) (o := 9) (.inl (by simp)) (.slice (some ⟨gg, 0, none⟩) (ds.length + 1) cap'))) hr4 (fun i hi hm => by
            simp at hm
            subst hm
            have q : some i = some g := by simpa [Value.ownBlock, eq_comm] using hi
            cases q
            have hb1 := (i3.below (alloc_below wr.drew (.cells (dnC ⟨tp, true, ⟨3, fj, 0, 0⟩, zj, false⟩).toArray 86))).t.blk
            rw [hb1] at hcur
            cases hcur)
          have y9 : (wr.alloc (.cells #[.int .i64 tp, .bool true, .int .i64 3, .int .i64 fj, .int .i64 0, .int .i64 0, .int .i64 zj, .bool false] 86)).drew.cell? ⟨Wb, 9, none⟩ = some v' := (i3.below (alloc_below _ (.cells #[.int .i64 tp, .bool true, .int .i64 3, .int .i64 fj, .int .i64 0, .int .i64 0, .int .i64 zj, .bool false] 86))).cellW rfl
          have hrun' : (Builtin.append_ #[45, 45] 45 #[v', .slice (some ⟨wr.heap.size, 0, none⟩) 1 1]).run Tryd.prog (wr.alloc (.cells #[.int .i64 tp, .bool true, .int .i64 3, .int .i64 fj, .int .i64 0, .int .i64 0, .int .i64 zj, .bool false] 86)).drew = .ok (.slice (some ⟨gg, 0, none⟩) (ds.length + 1) cap') w4 := hrun
          have hWl : Wb < (wr.drew.alloc (.cells (dnC ⟨tp, true, ⟨3, fj, 0, 0⟩, zj, false⟩).toArray 86)).heap.size := Nat.lt_of_lt_of_le (lt_of_block i3.t.blk) (alloc_below _ _).size
          have j9 : w4.cell? ⟨Wb, 9, none⟩ = some v' := by
            rw [World.grownBy.cell_far hgr ⟨Wb, 9, none⟩ hWl (row_far i3.t.row i3.t.blk (by decide))]
            exact (i3.below (alloc_below _ _)).cellW rfl
          have jf : w4.frozen? ⟨Wb, 9, none⟩ = false := by
            rw [World.grownBy.frozen_far hgr ⟨Wb, 9, none⟩ hWl (row_far i3.t.row i3.t.blk (by decide))]
            exact (i3.below (alloc_below _ _)).freeW 9
          replace hds : Hid (u.done ++ (four tp l').take j = ds) := hds
          replace e1 : Hid _ := e1
          replace hzj : Hid (l'.getD j 0 = zj) := hzj
          clear hrun hgr how hWl hcur hr4 ix hr hr3
          replace d4 : Hid _ := d4
          replace lj : Hid _ := lj
          simp [go_sem] at hrun'
          go_big_region
          clear hrun' y9 x9 fW9 m9 m8 mj j9 jf i3
          generalize w4.setCell ⟨Wb, 9, none⟩ _ = w5 at i4 hr5 ⊢
          go_wp2
          go_roundw
          case rel => exact ⟨j + 1, _, by omega, by go_num, by rw [e1.out, ← List.append_assoc, hds.out]; exact i4, hr5⟩
          case measure => simp [intOf]; omega
        · obtain rfl : j = 4 := by omega
          have m6 := ix.cellH k6
          have f6 := ix.freeH (o + 6)
          go_upto_region 14 with fail
          have i6 := ix.setH (o + 6) (.int .i64 0)
          clear m6 f6 ix hr
          generalize wr.setCell ⟨H, o + 6, none⟩ (.int .i64 0) = w6 at *
          have m5 := i6.cellH (i := o + 5) (by rw [get_set_ne (by omega)]; exact k5)
          have f5 := i6.freeH (o + 5)
          go_upto_region 15 with fail
          have i7 := i6.setH (o + 5) (.pointer none)
          clear m5 f5 i6
          generalize w6.setCell ⟨H, o + 5, none⟩ (.pointer none) = w7 at *
          have m1 := i7.cellH (i := o + 1) (by rw [get_set_ne (by omega), get_set_ne (by omega)]; exact hv1)
          have f1 := i7.freeH (o + 1)
          go_wp2
          have i8 := i7.setH (o + 1) (.pointer none)
          clear m1 f1 i7
          refine bodyPost_ret (results_none rfl _ _ _) rfl ?_
          refine ⟨rfl, ?_⟩
          rw [hRz.out, hfd]
          have e4 : (four tp l').take 4 = four tp l' := rfl
          rw [e4] at i8
          exact ⟨_, _, i8, ks.trans ((Same.set _ _ (by omega)).trans ((Same.set _ _ (by omega)).trans (Same.set _ _ (by omega)))), by rw [get_set_ne (by omega), get_set_ne (by omega), get_set_ne (by omega)]; exact k0, by rw [get_set (by simp; omega)], by rw [get_set_ne (by omega), get_set (by simp; omega)], by rw [get_set_ne (by omega), get_set_ne (by omega), get_set (by omega)]⟩
    · replace hfm := hfm hn4
      clear hfd
      have hn4I : ((n : Int) == 4) = false := by simp; omega
      have hn4J : ¬ (n : Int) = 4 := by omega
      go_upto_region 16 with fail
      have cS := fun (B : Nat) (w : World) => mkSee (f := n % 2) (v := vw) (fz := (n : Int).tmod 2) (by omega) (by rw [Int.tmod_eq_emod_of_nonneg (by omega)]; omega) B w
      have hS2 : ∀ wr v C, Ix w wr lo Wb H M G B L { u with g := g' } v C → C[o + 6]? = some (.int .i64 (n : Nat)) → C[o + 7]? = some (.int .u64 (vw : Nat)) → ((wr.cell? ⟨Wb, 0, none⟩ = some (.int .i64 40) ∧ wr.cell? ⟨Wb, 1, none⟩ = some (.int .i64 3) ∧ wr.cell? ⟨Wb, 2, none⟩ = some (.int .i64 1) ∧ wr.cell? ⟨Wb, 3, none⟩ = some (.int .i64 1) ∧ wr.cell? ⟨Wb, 4, none⟩ = some (.int .i64 9) ∧ wr.cell? ⟨Wb, 5, none⟩ = some (.int .i64 0)) ∧ wr.cell? ⟨Wb, 7, none⟩ = some (.pointer (some ⟨B, 0, none⟩))) ∧ wr.cell? ⟨H, o + 6, none⟩ = some (.int .i64 (n : Nat)) ∧ wr.cell? ⟨H, o + 7, none⟩ = some (.int .u64 (vw : Nat)) := fun wr v C x y z => ⟨⟨⟨x.cellW rfl, x.cellW rfl, x.cellW rfl, x.cellW rfl, x.cellW rfl, x.cellW rfl⟩, x.cellW rfl⟩, x.cellH y, x.cellH z⟩
      have ix5 := i5.drew
      have hr6 := own_below hr5 (Below.refl _ _).drew
      clear m6 i5 ix hr5
      have f5 := ix5.freeH (o + 5)
      have m5 := ix5.cellH k5
      have j6 : ∀ p, (C5.setIfInBounds (o + 5) p)[o + 6]? = some (.int .i64 (n : Nat)) := fun p => by rw [get_set_ne (by omega)]; exact k6
      have j7 : ∀ p, (C5.setIfInBounds (o + 5) p)[o + 7]? = some (.int .u64 (vw : Nat)) := fun p => by rw [get_set_ne (by omega)]; exact k7
      go_region_held3 (fun wr => ((wr.cell? ⟨Wb, 0, none⟩ = some (.int .i64 40) ∧ wr.cell? ⟨Wb, 1, none⟩ = some (.int .i64 3) ∧ wr.cell? ⟨Wb, 2, none⟩ = some (.int .i64 1) ∧ wr.cell? ⟨Wb, 3, none⟩ = some (.int .i64 1) ∧ wr.cell? ⟨Wb, 4, none⟩ = some (.int .i64 9) ∧ wr.cell? ⟨Wb, 5, none⟩ = some (.int .i64 0)) ∧ wr.cell? ⟨Wb, 7, none⟩ = some (.pointer (some ⟨B, 0, none⟩))) ∧ wr.cell? ⟨H, o + 6, none⟩ = some (.int .i64 (n : Nat)) ∧ wr.cell? ⟨H, o + 7, none⟩ = some (.int .u64 (vw : Nat))) (first | with_reducible exact hS2 _ _ _ i7 (j6 _) (j7 _) | with_reducible exact hS2 _ _ _ i6 k6 k7 | with_reducible exact hS2 _ _ _ ix5 k6 k7)
        ((go_at_call 20; with_reducible refine (cS _ _).mono ?_; rintro e w7 ⟨P4, cc, rfl, hP4, hSe4, hPl, bb⟩; have hne := ix5.new_ne hPl; have i6 := ix5.below bb; have i7 := i6.setH (o + 5) (.pointer (some ⟨P4, 0, none⟩)); have f5 := i6.freeH (o + 5); have m5 := i6.cellH k5; have hr7 := own_below hr6 bb))
      have hcg : ∀ (w : World) (k : Nat) (x : Value), Cm lo [H] w (w.setCell ⟨H, k, none⟩ x) := fun w k x => Cm.of_chg ((Chg.refl [H] w).setCell (b := H) (o := k) (.inl (by simp)) x)
      have hP5 : (w7.setCell ⟨H, o + 5, none⟩ (.pointer (some ⟨P4, 0, none⟩))).heap[P4]? = some (.cells cc 73 (0, 0)) := (Below.heap_setCell _ ⟨H, o + 5, none⟩ _ P4 (by show P4 ≠ H; omega)).trans hP4
      have hr8 := own_cm (hcg w7 (o + 5) (.pointer (some ⟨P4, 0, none⟩))) hr7 (fun i hi hm => by simp at hm; subst hm; exact row_ne hr7 i6.hb (by decide) hi)
      clear i6 f5 m5 hP4 ix5 bb hPl hr7 hr6
      generalize w7.setCell ⟨H, o + 5, none⟩ (.pointer (some ⟨P4, 0, none⟩)) = w8 at *
      have m6 := i7.cellH (j6 _)
      have f6 := i7.freeH (o + 6)
      go_wp2
      have i8 := i7.setH (o + 6) (.int .i64 ((n + 1 : Nat) : Int))
      have hP6 : (w8.setCell ⟨H, o + 6, none⟩ (.int .i64 ((n + 1 : Nat) : Int))).heap[P4]? = some (.cells cc 73 (0, 0)) := (Below.heap_setCell _ ⟨H, o + 6, none⟩ _ P4 (by show P4 ≠ H; omega)).trans hP5
      have hr9 := own_cm (hcg w8 (o + 6) (.int .i64 ((n + 1 : Nat) : Int))) hr8 (fun i hi hm => by simp at hm; subst hm; exact row_ne hr8 i7.hb (by decide) hi)
      clear m6 f6
      go_end0
      refine ⟨rfl, ?_⟩
      rw [hRz.out, hfm]
      have hnn : ((n : Int) + 1) = ((n + 1 : Nat) : Int) := by omega
      rw [hnn]
      refine ⟨_, v, i8, ks.trans ((Same.set _ _ (by omega)).trans (Same.set _ _ (by omega))), by rw [get_set_ne (by omega), get_set_ne (by omega)]; exact k0, by rw [get_set_ne (by omega), get_set_ne (by omega)]; exact k1, [P4, g], ⟨by rw [get_set (by simp; omega)], by omega, by omega, by omega, by rw [get_set_ne (by omega)]; exact j7 _, hvl, by rw [get_set_ne (by omega), get_set_ne (by omega)]; exact k9, P4, cc, .slice (some ⟨g, 0, none⟩) n cap, by rw [get_set_ne (by omega), get_set (by omega)], hP6, hSe4, se0_ok (by rw [KC_bd, KC_N]; omega), by rw [get_set_ne (by omega), get_set_ne (by omega)]; exact k8, by rw [hll]; exact hr9, rfl⟩, fun i hi => ?_⟩
      simp at hi
      rcases hi with rfl | rfl
      · exact .inr hne
      · exact hgm
  · rw [show decide (s'.pc = 4) = false by simp [hpc]] at cU
    replace hfn := hfn hpc
    clear hpc hfd hfm
    go_upto_region 6 with fail
    have ix := ix.drew
    replace hP : w1.drew.heap[P]? = _ := hP
    replace hrow := own_below hrow (Below.refl _ _).drew
    clear m5
    go_region_held (fun wr => wr.cell? ⟨H, o + 5, none⟩ = some (.pointer (some ⟨P, 0, none⟩)) ∧ wr.cell? ⟨Wb, 6, none⟩ = some (.pointer (some ⟨M, 0, none⟩))) (first | with_reducible exact hS _ _ _ ix | with_reducible exact hS _ _ _ i2)
      ((go_at_call 21; with_reducible refine (cU _ ix hP hrow).mono ?_; rintro e w3 ⟨rfl, c', i2, hP', hS', hr'⟩))
    go_wp2
    refine bodyPost_ret (results_none rfl _ _ _) rfl ?_
    refine ⟨rfl, ?_⟩
    rw [hRz.out, hfn]
    exact ⟨C, v, i2, Same.refl _ _ _, rfl, rfl, P :: vr.ownBlock.toList, ⟨h6, n1, n4, hln.out, h7, hvl, h9, P, c', vr, h5, hP', hS', hso, h8, hr', rfl⟩, fun i hi => by
      rcases List.mem_cons.1 hi with k | k
      · rw [k]; exact .inl hPm
      · exact .inl (hvm i k)⟩
end Go.Proofs.YtnegdabcjnhpdaaDoor
/- A step of a hand that turns the clock, or sees. -/
namespace Go.Proofs.YtnegdabcjnhpdaaDoor
open Go.RowKit
open Mm (IsMem MS touched Only)
open Hh (WT)
theorem mstep3 {mc mc' : Mc} (h : mc.is3) {B Q : Nat} {a : Ac} {u : Wl} (hx : (mstep B Q a mc u).1 = some mc') : mc'.kindOk 3 := by
  cases mc with
  | read r => cases h
  | lay l => cases h
  | turn t =>
    unfold mstep at hx
    simp only at hx
    split at hx <;> cases hx <;> exact rfl
  | see s n v l tp =>
    unfold mstep at hx
    simp only at hx
    split at hx
    · split at hx
      · cases hx
      · cases hx; exact rfl
    · cases hx; exact rfl
theorem mstep3_T {mc : Mc} (h : mc.is3) (B Q : Nat) (a : Ac) (u : Wl) : (u.g.T ≤ (mstep B Q a mc u).2.g.T ∧ (mstep B Q a mc u).2.g.T ≤ u.g.T + 1) ∧ (mstep B Q a mc u).2.bad = u.bad := by
  cases mc with
  | read r => cases h
  | lay l => cases h
  | turn t =>
    have := t.step_T u.g
    unfold mstep
    simp only
    split <;> exact ⟨this, rfl⟩
  | see s n v l tp =>
    have := s.step_T KC B u.g
    unfold mstep
    simp only
    split
    · split <;> exact ⟨this, rfl⟩
    · exact ⟨this, rfl⟩
theorem std_sen {w w1 w3 : World} {lo Wb H M G B : Nat} {C C1 : Array Value} {o A : Nat} {L : List Nat} {a : Ac} {acts : List Ac} {va : Value} {mc : Mc} {u : Wl} {Q : Nat} (hcd : Cd lo (Wb :: H :: M :: G :: B :: L) w w1) (sn : Sen w1 w3 lo Wb H M G B C1 o L (mstep B Q a mc u)) (h3 : mc.is3) (hk : a.kind = 3)
    (hs : Same C C1 o (o + 9)) (hsz : o + 10 ≤ C.size) (hva : C1[o]? = some va) (ha : ActsAt w1 lo va acts) (h1 : C1[o + 1]? = some (.pointer (some ⟨A, 0, none⟩))) (hA : w1.heap[A]? = some (.cells (acC a) 84 (0, 0))) : Std w w3 lo Wb H M G B C o L (fin a acts u.g.T (mstep B Q a mc u)) := by
  have hT := mstep3_T h3 B Q a u
  have h4 := fun mc' => mstep3 (mc' := mc') h3 (B := B) (Q := Q) (a := a) (u := u)
  unfold fin
  generalize mstep B Q a mc u = x at *
  obtain ⟨xo, xu⟩ := x
  obtain ⟨C', v', i2, hs', k0, km⟩ := sn
  have hbad : { xu with bad := xu.bad || decide (u.g.T + 1 < xu.g.T) } = xu := by
    rw [decide_eq_false (by have : xu.g.T ≤ u.g.T + 1 := hT.1.2; show ¬ u.g.T + 1 < xu.g.T; omega), Bool.or_false]
  show Std w w3 lo Wb H M G B C o L (⟨acts, xo.map fun m => (a, m)⟩, { xu with bad := xu.bad || decide (u.g.T + 1 < xu.g.T) })
  rw [hbad]
  have ix : Ix w w3 lo Wb H M G B L xu v' C' := ⟨i2.t, i2.hb, hcd.trans i2.cd, i2.ne, i2.l, i2.lo⟩
  cases xo with
  | none => exact std_idle (w0 := w1) ix (hs.trans hs') hsz (k0.trans hva) ha i2.cd km.1 km.2.1 km.2.2
  | some mc' =>
    obtain ⟨k1, own', hm, ho⟩ := km
    refine std_busy (w0 := w1) ix (hs.trans hs') hsz (k0.trans hva) ha i2.cd (k1.trans h1) ((i2.cd.acts A _ _ hA).trans hA) hm (by rw [hk]; exact h4 mc' rfl) fun i hi => ?_
    rcases ho i hi with q | q
    · exact .inl q
    · have := hcd.size
      exact .inr ⟨by omega, q.2⟩
/-- In sight: a Turn's place. -/
def Mc.fit : Mc → Prop
  | .turn t => t.pc = 0 ∨ t.pc = 1
  | _ => True
theorem sees_any {w : World} {lo Wb H M G B : Nat} {L own : List Nat} {u : Wl} {v : Value} {C : Array Value} {o : Nat} {a : Ac} {mc : Mc} {x0 x1 x2 x3 : Int}
    (ix : Ix w w lo Wb H M G B L u v C) (h3 : mc.is3) (hm : McAt w lo M G B C o own mc) (hf : mc.fit) (hL : ∀ i ∈ own, i ∈ L) (hsz : o + 10 ≤ C.size) (hd : u.done.length + 4 < 1000000) (hT : u.g.T + 3 < 4611686018427387904) :
    Calls Tryd.prog 35 #[.pointer (some ⟨H, o, none⟩), .pointer (some ⟨Wb, 0, none⟩), .agg #[.int .i64 x0, .int .i64 x1, .int .i64 x2, .int .i64 x3]] w fun e w' => e = .returned (.tuple #[]) ∧ Sen w w' lo Wb H M G B C o L (mstep B 0 a mc u) := by
  cases mc with
  | read r => cases h3
  | lay l => cases h3
  | turn t => exact sees_turn ix hm hL hsz hf hT
  | see s n v l tp => exact sees_see ix hm hL hsz hd hT
set_option maxRecDepth 100000 in
set_option maxHeartbeats 8000000 in
theorem step_sees {w : World} {lo Wb H M G B : Nat} {u : Wl} {v : Value} {C : Array Value} {o : Nat} {own : List Nat} {acts : List Ac} {a : Ac} {mc : Mc}
    (ht : Wt w lo Wb M G B u v) (hb : w.heap[H]? = some (.cells C 36 (0, 0))) (hh : HnAt w lo Wb H M G B C o own ⟨acts, some (a, mc)⟩) (h3 : mc.is3) (hfit : mc.fit) (hne : H ≠ M ∧ H ≠ G ∧ H ≠ B ∧ H ≠ Wb) (hlo : lo ≤ H) (hT : u.g.T + 3 < 4611686018427387904) (hd : u.done.length + 4 < 1000000) :
    Calls Tryd.prog 9 #[.pointer (some ⟨H, o, none⟩), .pointer (some ⟨Wb, 0, none⟩)] w fun e w' => e = .returned (.tuple #[]) ∧ ∃ Q, Std w w' lo Wb H M G B C o own (fin a acts u.g.T (mstep B Q a mc u)) := by
  obtain ⟨Rz, hRz⟩ : ∃ Rz : World → Prop, Hid (Rz = fun w' => ∃ Q, Std w w' lo Wb H M G B C o own (fin a acts u.g.T (mstep B Q a mc u))) := ⟨_, rfl⟩
  refine Calls.mono (show Calls Tryd.prog 9 #[.pointer (some ⟨H, o, none⟩), .pointer (some ⟨Wb, 0, none⟩)] w (fun e w' => e = .returned (.tuple #[]) ∧ Rz w') from ?_) (fun e w' h => by rw [hRz.out] at h; exact h)
  have hsz := hh.sz
  have hszC := hh.sz
  obtain ⟨va, hva, hact⟩ := hh.acts
  obtain ⟨A, h1, hA, hmc0, hkd0⟩ := hh.busy a _ rfl
  have hcd0 : Cd lo (Wb :: H :: M :: G :: B :: own) w w := Cd.refl _ _ _
  have hown1 := hh.own
  have hk0 : a.kind = 3 := by
    cases mc with
    | read r => cases h3
    | lay l => cases h3
    | turn t => exact hkd0
    | see s n v l tp => exact hkd0
  have m1 : w.cell? ⟨H, o + 1, none⟩ = some (.pointer (some ⟨A, 0, none⟩)) := Blk.cell (t := 36) hb h1
  have x6 : w.cell? ⟨Wb, 6, none⟩ = some (.pointer (some ⟨M, 0, none⟩)) := Blk.cell (t := 47) ht.blk rfl
  have hs1 : Same C C o (o + 9) := Same.refl _ _ _
  go_enter Tryd.func9, Tryd.ntmps9
  have hTb := mstep3_T h3 B 0 a u
  obtain ⟨ak, af, av, ae⟩ := a
  replace hk0 : ak = 3 := hk0
  subst hk0
  have hAb : Blk w A (acC ⟨3, af, av, ae⟩) 84 := hA
  have a0 : w.cell? ⟨A, 0, none⟩ = some (.int .i64 3) := hAb.cell rfl
  have a1 : w.cell? ⟨A, 1, none⟩ = some (.int .i64 af) := hAb.cell rfl
  have a2 : w.cell? ⟨A, 2, none⟩ = some (.int .i64 av) := hAb.cell rfl
  have a3 : w.cell? ⟨A, 3, none⟩ = some (.int .i64 ae) := hAb.cell rfl
  have c34 : Calls Tryd.prog 34 #[.pointer (some ⟨M, 0, none⟩)] w fun e w' => e = .returned (.int .i64 u.g.T) ∧ w = w' := touchesX ht.gw.mem
  have hgb : -4611686018427387904 < u.g.T ∧ u.g.T < 4611686018427387904 := by have := ht.gw.tb; omega
  clear hAb
  go_upto_region 3 with (go_at_call 34; with_reducible refine c34.mono ?_; rintro e w0 ⟨rfl, rfl⟩)
  have hA2 : Blk (w.alloc (.cells #[.int .i64 3, .int .i64 af, .int .i64 av, .int .i64 ae] 84)) w.heap.size (acC ⟨3, af, av, ae⟩) 84 := new_obj w _
  have bA := alloc_below w (.cells #[.int .i64 3, .int .i64 af, .int .i64 av, .int .i64 ae] 84)
  have hh2 := hh.keep (L := []) (Cd.of_below bA) (by simp) (by simp)
  have ht2 := ht.below bA
  have hb2 := (bA.block H (lt_of_block hb)).trans hb
  have hA1 := (bA.block A (lt_of_block hA)).trans hA
  have hcd1 := hcd0.trans (Cd.of_below bA)
  have hact2 := hact.cd (Cd.of_below (L := []) bA) (by simp)
  clear bA a0 a1 a2 a3 m1 x6 c34 hA hact hb ht hcd0 hh hmc0
  generalize w.alloc (.cells #[.int .i64 3, .int .i64 af, .int .i64 av, .int .i64 ae] 84) = w1 at *
  obtain ⟨A', h1', _, hmc, _⟩ := hh2.busy _ _ rfl
  have ix : Ix w1 w1 lo Wb H M G B own u v C := ⟨ht2, hb2, Cd.refl _ _ _, hne, hown1, hlo⟩
  have c35 := sees_any (a := ⟨3, af, av, ae⟩) (x0 := 3) (x1 := af) (x2 := av) (x3 := ae) ix h3 hmc hfit (fun _ h => h) hszC hd hT
  have a0 : w1.cell? ⟨w.heap.size, 0, none⟩ = some (.int .i64 3) := hA2.cell rfl
  have a1 : w1.cell? ⟨w.heap.size, 1, none⟩ = some (.int .i64 af) := hA2.cell rfl
  have a2 : w1.cell? ⟨w.heap.size, 2, none⟩ = some (.int .i64 av) := hA2.cell rfl
  have a3 : w1.cell? ⟨w.heap.size, 3, none⟩ = some (.int .i64 ae) := hA2.cell rfl
  clear hmc hh2 ht2 hb2 ix
  go_upto_region 13 with (go_at_call 35; with_reducible refine c35.mono ?_; rintro e w3 ⟨rfl, sn⟩)
  have std := std_sen hcd1 sn h3 rfl hs1 hsz hva hact2 h1 hA1
  have x6 : w3.cell? ⟨Wb, 6, none⟩ = some (.pointer (some ⟨M, 0, none⟩)) := by
    obtain ⟨C', v', i2, _⟩ := sn
    exact i2.cellW rfl
  have c34 : Calls Tryd.prog 34 #[.pointer (some ⟨M, 0, none⟩)] w3 fun e w' => e = .returned (.int .i64 (mstep B 0 ⟨3, af, av, ae⟩ mc u).2.g.T) ∧ w3 = w' := by
    obtain ⟨C', v', i2, _⟩ := sn
    exact touchesX i2.t.gw.mem
  have hTT : ¬ u.g.T + 1 < (mstep B 0 ⟨3, af, av, ae⟩ mc u).2.g.T := by have := hTb.1.2; omega
  have Hstd : Rz w3 := by rw [hRz.out]; exact ⟨0, std⟩
  clear sn std c35 a0 a1 a2 a3 hRz hTb
  generalize (mstep B 0 ⟨3, af, av, ae⟩ mc u).2.g.T = TT at *
  go_wp2_with (go_at_call 34; with_reducible refine c34.mono ?_; rintro e w0 ⟨rfl, rfl⟩)
  go_end0
  exact ⟨rfl, Hstd⟩
set_option maxRecDepth 100000 in
set_option maxHeartbeats 8000000 in
theorem step_sees_b {w : World} {lo Wb H M G B : Nat} {u : Wl} {v : Value} {C : Array Value} {o : Nat} {own : List Nat} {acts : List Ac} {a0 : Ac}
    (ht : Wt w lo Wb M G B u v) (hb : w.heap[H]? = some (.cells C 36 (0, 0))) (hh : HnAt w lo Wb H M G B C o own ⟨a0 :: acts, none⟩) (hn : 5 ≤ u.next ∧ u.next ≤ 40) (hk0 : (a0.norm u.next).kind = 3) (hne : H ≠ M ∧ H ≠ G ∧ H ≠ B ∧ H ≠ Wb) (hlo : lo ≤ H) (hT : u.g.T + 3 < 4611686018427387904) (hd : u.done.length + 4 < 1000000) :
    Calls Tryd.prog 9 #[.pointer (some ⟨H, o, none⟩), .pointer (some ⟨Wb, 0, none⟩)] w fun e w' => e = .returned (.tuple #[]) ∧ ∃ Q, Std w w' lo Wb H M G B C o own (fin (a0.norm u.next) acts (beg (a0.norm u.next) u).2.g.T (mstep B Q (a0.norm u.next) (beg (a0.norm u.next) u).1 (beg (a0.norm u.next) u).2)) := by
  obtain ⟨Rz, hRz⟩ : ∃ Rz : World → Prop, Hid (Rz = fun w' => ∃ Q, Std w w' lo Wb H M G B C o own (fin (a0.norm u.next) acts (beg (a0.norm u.next) u).2.g.T (mstep B Q (a0.norm u.next) (beg (a0.norm u.next) u).1 (beg (a0.norm u.next) u).2))) := ⟨_, rfl⟩
  refine Calls.mono (show Calls Tryd.prog 9 #[.pointer (some ⟨H, o, none⟩), .pointer (some ⟨Wb, 0, none⟩)] w (fun e w' => e = .returned (.tuple #[]) ∧ Rz w') from ?_) (fun e w' h => by rw [hRz.out] at h; exact h)
  have cB := begins2_any ht hb hh hne hlo (by omega) hn
  have hsz := hh.sz
  have m0 : w.cell? ⟨H, o + 1, none⟩ = some (.pointer none) := Blk.cell (t := 36) hb (hh.idle rfl).1
  obtain ⟨a, ha⟩ : ∃ a, a0.norm u.next = a := ⟨_, rfl⟩
  rw [ha] at hk0 cB hRz
  clear ha
  have hbeg : beg a u = (.turn ⟨0, 0, 0, 0⟩, u) := by unfold beg; rw [if_neg (by omega), if_pos hk0]
  unfold Bgd2 at cB
  rw [hbeg] at cB hRz
  simp only at cB hRz
  clear hbeg hh ht hb
  go_enter Tryd.func9, Tryd.ntmps9
  go_upto_region 1 with (go_at_call 33; with_reducible refine cB.mono ?_; rintro e wb ⟨rfl, C1, own1, ⟨va, hva, hact⟩, ht1, hb1, hs1, hh1, cd1, ho1⟩)
  clear cB m0
  have hcd0 : Cd lo (Wb :: H :: M :: G :: B :: own1) w wb := cd1.mono (by simp)
  have hact1 : ActsAt wb lo va acts := hact.cd cd1 (fun i hi => by
    have := ht1.lo
    have := ht1.gw.lo1
    simp at hi
    rcases hi with rfl | rfl | rfl | rfl | rfl <;> omega)
  have hszC : o + 10 ≤ C1.size := by rw [hs1.size]; exact hsz
  obtain ⟨A, h1, hA, hmc0, hkd0⟩ := hh1.busy a _ rfl
  have h3 : (Mc.turn ⟨0, 0, 0, 0⟩).is3 := trivial
  have hfit : (Mc.turn ⟨0, 0, 0, 0⟩).fit := .inl rfl
  generalize (Mc.turn ⟨0, 0, 0, 0⟩) = mc at *
  have hown1 := hh1.own
  have m1 : wb.cell? ⟨H, o + 1, none⟩ = some (.pointer (some ⟨A, 0, none⟩)) := Blk.cell (t := 36) hb1 h1
  have x6 : wb.cell? ⟨Wb, 6, none⟩ = some (.pointer (some ⟨M, 0, none⟩)) := Blk.cell (t := 47) ht1.blk rfl
  have hTb := mstep3_T h3 B 0 a u
  obtain ⟨ak, af, av, ae⟩ := a
  replace hk0 : ak = 3 := hk0
  subst hk0
  have hAb : Blk wb A (acC ⟨3, af, av, ae⟩) 84 := hA
  have a0 : wb.cell? ⟨A, 0, none⟩ = some (.int .i64 3) := hAb.cell rfl
  have a1 : wb.cell? ⟨A, 1, none⟩ = some (.int .i64 af) := hAb.cell rfl
  have a2 : wb.cell? ⟨A, 2, none⟩ = some (.int .i64 av) := hAb.cell rfl
  have a3 : wb.cell? ⟨A, 3, none⟩ = some (.int .i64 ae) := hAb.cell rfl
  have c34 : Calls Tryd.prog 34 #[.pointer (some ⟨M, 0, none⟩)] wb fun e w' => e = .returned (.int .i64 u.g.T) ∧ wb = w' := touchesX ht1.gw.mem
  have hgb : -4611686018427387904 < u.g.T ∧ u.g.T < 4611686018427387904 := by have := ht1.gw.tb; omega
  clear hAb
  go_upto_region 3 with (go_at_call 34; with_reducible refine c34.mono ?_; rintro e w0 ⟨rfl, rfl⟩)
  have hA2 : Blk (wb.alloc (.cells #[.int .i64 3, .int .i64 af, .int .i64 av, .int .i64 ae] 84)) wb.heap.size (acC ⟨3, af, av, ae⟩) 84 := new_obj wb _
  have bA := alloc_below wb (.cells #[.int .i64 3, .int .i64 af, .int .i64 av, .int .i64 ae] 84)
  have hh2 := hh1.keep (L := []) (Cd.of_below bA) (by simp) (by simp)
  have ht2 := ht1.below bA
  have hb2 := (bA.block H (lt_of_block hb1)).trans hb1
  have hA1 := (bA.block A (lt_of_block hA)).trans hA
  have hcd1 := hcd0.trans (Cd.of_below bA)
  have hact2 := hact1.cd (Cd.of_below (L := []) bA) (by simp)
  clear bA a0 a1 a2 a3 m1 x6 c34 hA hact1 hb1 ht1 hcd0 hh1 hmc0
  generalize wb.alloc (.cells #[.int .i64 3, .int .i64 af, .int .i64 av, .int .i64 ae] 84) = w1 at *
  obtain ⟨A', h1', _, hmc, _⟩ := hh2.busy _ _ rfl
  have ix : Ix w1 w1 lo Wb H M G B own1 u v C1 := ⟨ht2, hb2, Cd.refl _ _ _, hne, hown1, hlo⟩
  have c35 := sees_any (a := ⟨3, af, av, ae⟩) (x0 := 3) (x1 := af) (x2 := av) (x3 := ae) ix h3 hmc hfit (fun _ h => h) hszC hd hT
  have a0 : w1.cell? ⟨wb.heap.size, 0, none⟩ = some (.int .i64 3) := hA2.cell rfl
  have a1 : w1.cell? ⟨wb.heap.size, 1, none⟩ = some (.int .i64 af) := hA2.cell rfl
  have a2 : w1.cell? ⟨wb.heap.size, 2, none⟩ = some (.int .i64 av) := hA2.cell rfl
  have a3 : w1.cell? ⟨wb.heap.size, 3, none⟩ = some (.int .i64 ae) := hA2.cell rfl
  clear hmc hh2 ht2 hb2 ix
  go_upto_region 13 with (go_at_call 35; with_reducible refine c35.mono ?_; rintro e w3 ⟨rfl, sn⟩)
  have std := std_sen hcd1 sn h3 rfl hs1 hsz hva hact2 h1 hA1
  have x6 : w3.cell? ⟨Wb, 6, none⟩ = some (.pointer (some ⟨M, 0, none⟩)) := by
    obtain ⟨C', v', i2, _⟩ := sn
    exact i2.cellW rfl
  have c34 : Calls Tryd.prog 34 #[.pointer (some ⟨M, 0, none⟩)] w3 fun e w' => e = .returned (.int .i64 (mstep B 0 ⟨3, af, av, ae⟩ mc u).2.g.T) ∧ w3 = w' := by
    obtain ⟨C', v', i2, _⟩ := sn
    exact touchesX i2.t.gw.mem
  have hTT : ¬ u.g.T + 1 < (mstep B 0 ⟨3, af, av, ae⟩ mc u).2.g.T := by have := hTb.1.2; omega
  have Hstd : Rz w3 := by rw [hRz.out]; exact ⟨0, std.mono fun i hi => .inr (ho1 i hi)⟩
  clear sn std c35 a0 a1 a2 a3 hRz hTb
  generalize (mstep B 0 ⟨3, af, av, ae⟩ mc u).2.g.T = TT at *
  go_wp2_with (go_at_call 34; with_reducible refine c34.mono ?_; rintro e w0 ⟨rfl, rfl⟩)
  go_end0
  exact ⟨rfl, Hstd⟩
end Go.Proofs.YtnegdabcjnhpdaaDoor
/- A step of a hand, whatever it does. -/
namespace Go.Proofs.YtnegdabcjnhpdaaDoor
open Go.RowKit
open Mm (IsMem MS touched Only)
open Hh (WT)
def Hn.fit (h : Hn) : Prop := ∀ a mc, h.cur = some (a, mc) → mc.fit
theorem step_any {w : World} {lo Wb H M G B : Nat} {u : Wl} {v : Value} {C : Array Value} {o : Nat} {own : List Nat} {h : Hn}
    (ht : Wt w lo Wb M G B u v) (hb : w.heap[H]? = some (.cells C 36 (0, 0))) (hh : HnAt w lo Wb H M G B C o own h) (hf : h.fit) (hne : H ≠ M ∧ H ≠ G ∧ H ≠ B ∧ H ≠ Wb) (hlo : lo ≤ H) (hT : u.g.T + 3 < 4611686018427387904) (hd : u.done.length + 4 < 1000000) (hn : 5 ≤ u.next ∧ u.next ≤ 40) :
    Calls Tryd.prog 9 #[.pointer (some ⟨H, o, none⟩), .pointer (some ⟨Wb, 0, none⟩)] w fun e w' => e = .returned (.tuple #[]) ∧ ∃ Q, Std w w' lo Wb H M G B C o own (h.step B Q u) := by
  by_cases hl : h.lite u.next = true
  · exact step_lite ht hb hh hne hlo hT (by omega) hn hl
  · obtain ⟨acts, cur⟩ := h
    cases cur with
    | none =>
      cases acts with
      | nil => exact absurd rfl hl
      | cons a r =>
        have hk : (a.norm u.next).kind = 3 := by simpa [Hn.lite] using hl
        exact step_sees_b ht hb hh hn hk hne hlo hT hd
    | some x =>
      obtain ⟨a, mc⟩ := x
      cases mc with
      | read r => exact absurd rfl hl
      | lay l => exact absurd rfl hl
      | turn t => exact step_sees ht hb hh trivial (hf a _ rfl) hne hlo hT hd
      | see s n v l tp => exact step_sees ht hb hh trivial (hf a _ rfl) hne hlo hT hd
end Go.Proofs.YtnegdabcjnhpdaaDoor
