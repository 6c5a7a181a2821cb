/- An act that a hand begins. -/
import Derived.Test.YtnegdabcjnhpdaaGreatDoorGD
import Derived.Test.YtnegdabcjnhpdaaGreatDoorGF
import Derived.BigQuiet
import Derived.BigRegion
namespace Go.Proofs.YtnegdabcjnhpdaaGreatDoor
open Go.RowKit
open Mm (IsMem MS touched Only)
open Hh (WT)
set_option maxRecDepth 100000 in
set_option maxHeartbeats 8000000 in
theorem begins2_any {w : World} {lo Wb H M G B : Nat} {u : Wl} {v : Value} {C : Array Value} {o : Nat} {own : List Nat} {a : Ac} {r : List Ac}
    (ht : Wt w lo Wb M G B u v) (hb : w.heap[H]? = some (.cells C 58 (0, 0))) (hh : HnAt w lo Wb H M G B C o own ⟨a :: r, none⟩) (hne : H ≠ M ∧ H ≠ G ∧ H ≠ B ∧ H ≠ Wb) (hlo : lo ≤ H) (hT : u.g.T + 2 < 4611686018427387904) (hn : 5 ≤ u.next ∧ u.next ≤ 40) :
    Calls Tryz.prog 29 #[.pointer (some ⟨H, o, none⟩), .pointer (some ⟨Wb, 0, none⟩)] w fun e w' => e = .returned (.bool true) ∧ Bgd2 w w' lo Wb H M G B u v C o r (a.norm u.next) := by
  obtain ⟨an, han⟩ : ∃ an, a.norm u.next = an := ⟨_, rfl⟩
  rw [han]
  replace han : Hid (a.norm u.next = an) := han
  have is : Iw w w lo Wb H M G B u.g (wlC M B u.next v u.bad) C := ⟨ht.gw, ht.blk, hb, Cd.refl _ _ _, ⟨ht.ne.1, ht.ne.2.1, ht.ne.2.2, hne⟩, ⟨ht.lo, hlo⟩, fun _ _ _ _ => rfl⟩
  obtain ⟨va, hva, ad, cap, rfl, hcap, hcap2, hac⟩ := hh.acts
  obtain ⟨b, off, rfl, hbk, a', ha', q0, q1, q2, q3⟩ := hac 0 (by simp)
  obtain rfl : a = a' := by simpa using ha'
  simp only [Nat.zero_mul, Nat.add_zero] at q0 q1 q2 q3
  obtain ⟨n1, n5, n6, hown⟩ := hh.idle rfl
  have hsz := hh.sz
  have h0 := is.cellH hva
  have f0 := is.freeH o
  simp only [List.length_cons] at h0 hcap
  have hacts : ActsAt w lo (.slice (if cap = 1 then some ⟨b, off, none⟩ else some ⟨b, off + 4, none⟩) r.length (cap - 1)) r := by
    refine ⟨_, _, rfl, by omega, by omega, fun i hi => ?_⟩
    obtain ⟨b', off', e1, e2, a', e3, p0, p1, p2, p3⟩ := hac (i + 1) (by simp; omega)
    cases e1
    refine ⟨b, off + 4, by rw [if_neg (by omega)], e2, a', by simpa using e3, ?_, ?_, ?_, ?_⟩
    · rw [show off + 4 + i * 4 = off + (i + 1) * 4 by omega]; exact p0
    · rw [show off + 4 + i * 4 + 1 = off + (i + 1) * 4 + 1 by omega]; exact p1
    · rw [show off + 4 + i * 4 + 2 = off + (i + 1) * 4 + 2 by omega]; exact p2
    · rw [show off + 4 + i * 4 + 3 = off + (i + 1) * 4 + 3 by omega]; exact p3
  have k4 := pick_any a.kind (n := 4) (by omega)
  have k2 := pick_any a.fld (n := 2) (by omega)
  have kv := pick_any a.val (n := 5) (by omega)
  have ke := pick_any a.expect (n := 5) (by omega)
  have z0 := pk_b a.kind (n := 4) (by omega)
  have z1 := pk_b a.fld (n := 2) (by omega)
  have z2 := pk_b a.val (n := 5) (by omega)
  have z3 := pk_b a.expect (n := 5) (by omega)
  have hN : a.norm u.next = ⟨if (pk a.kind 4 = 1 ∨ pk a.kind 4 = 2) ∧ 40 ≤ u.next then 0 else pk a.kind 4, pk a.fld 2, pk a.val 5 - 1, pk a.expect 5 - 1⟩ := rfl
  replace hN : Hid (a.norm u.next = ⟨if (pk a.kind 4 = 1 ∨ pk a.kind 4 = 2) ∧ 40 ≤ u.next then 0 else pk a.kind 4, pk a.fld 2, pk a.val 5 - 1, pk a.expect 5 - 1⟩) := hN
  have row := ht.row
  have lo1 := ht.gw.lo1
  have hMG := ht.gw.mem.lt
  have hBl : B < w.heap.size := by obtain ⟨_, _, x⟩ := ht.gw.book; exact x.lt
  have hAW : Wb < w.heap.size := lt_of_block ht.blk
  have hAH : H < w.heap.size := lt_of_block hb
  clear hac ha' hbk ht hh hown
  go_enter Tryz.func29, Tryz.ntmps29
  go_upto_region 4 with fail
  have ia : Ia w (w.alloc (.cells #[.int .i64 a.kind, .int .i64 a.fld, .int .i64 a.val, .int .i64 a.expect] 51)) lo Wb H M G B u.g (wlC M B u.next v u.bad) C w.heap.size #[.int .i64 a.kind, .int .i64 a.fld, .int .i64 a.val, .int .i64 a.expect] := ⟨is.below (alloc_below w _), new_obj w _, Nat.le_refl _, by omega, lo1.2.2.2.2⟩
  clear h0 f0 q0 q1 q2 q3 is
  generalize w.alloc (.cells #[.int .i64 a.kind, .int .i64 a.fld, .int .i64 a.val, .int .i64 a.expect] 51) = w1 at *
  generalize hAe : w.heap.size = A at *
  replace hAe : Hid (w.heap.size = A) := hAe
  have h0 := ia.is.cellH hva
  have f0 := ia.is.freeH o
  simp only [List.length_cons] at h0
  go_upto_region 5 with fail
  generalize (Value.slice (if cap = 1 then some ⟨b, off, none⟩ else some ⟨b, off + 4, none⟩) r.length (cap - 1)) = vs at *
  replace ia := ia.setH o vs
  clear h0 f0
  generalize w1.setCell ⟨H, o, none⟩ vs = w2 at *
  have l0 : w2.cell? ⟨A, 0, none⟩ = some (.int .i64 a.kind) := ia.cellA rfl
  have l1 : w2.cell? ⟨A, 1, none⟩ = some (.int .i64 a.fld) := ia.cellA rfl
  have l2 : w2.cell? ⟨A, 2, none⟩ = some (.int .i64 a.val) := ia.cellA rfl
  have l3 : w2.cell? ⟨A, 3, none⟩ = some (.int .i64 a.expect) := ia.cellA rfl
  have fz0 := ia.freeA 0; have fz1 := ia.freeA 1; have fz2 := ia.freeA 2; have fz3 := ia.freeA 3
  generalize pk a.kind 4 = kd at *
  generalize pk a.fld 2 = fd at *
  generalize pk a.val 5 = vd at *
  generalize pk a.expect 5 = ed at *
  go_upto_region 9 with (go_at_call 46; first
    | (with_reducible refine (k4 _).mono ?_; rintro e w3 ⟨rfl, rfl⟩)
    | (with_reducible refine (k2 _).mono ?_; rintro e w3 ⟨rfl, rfl⟩)
    | (with_reducible refine (kv _).mono ?_; rintro e w3 ⟨rfl, rfl⟩)
    | (with_reducible refine (ke _).mono ?_; rintro e w3 ⟨rfl, rfl⟩))
  replace ia := (((ia.setA 0 (.int .i64 kd)).setA 1 (.int .i64 fd)).setA 2 (.int .i64 (vd - 1))).setA 3 (.int .i64 (ed - 1))
  simp only [List.setIfInBounds_toArray, List.set_cons_zero, List.set_cons_succ] at ia
  clear l0 l1 l2 l3 fz0 fz1 fz2 fz3 k4 k2 kv ke
  generalize World.setCell _ _ _ = w4 at ia ⊢
  have l0 : w4.cell? ⟨A, 0, none⟩ = some (.int .i64 kd) := ia.cellA rfl
  have x0 : w4.cell? ⟨Wb, 0, none⟩ = some (.int .i64 40) := ia.is.cellW rfl
  have x8 : w4.cell? ⟨Wb, 8, none⟩ = some (.int .i64 (u.next : Nat)) := ia.is.cellW rfl
  have hkd : kd = 0 ∨ kd = 1 ∨ kd = 2 ∨ kd = 3 := by omega
  have hS : ∀ wr g C k n, Ia w wr lo Wb H M G B g (wlC M B n v u.bad) C A #[.int .i64 k, .int .i64 fd, .int .i64 (vd - 1), .int .i64 (ed - 1)] → (wr.cell? ⟨Wb, 0, none⟩ = some (.int .i64 40) ∧ wr.cell? ⟨Wb, 1, none⟩ = some (.int .i64 3) ∧ wr.cell? ⟨Wb, 2, none⟩ = some (.int .i64 1) ∧ wr.cell? ⟨Wb, 3, none⟩ = some (.int .i64 1) ∧ wr.cell? ⟨Wb, 4, none⟩ = some (.int .i64 9) ∧ wr.cell? ⟨Wb, 5, none⟩ = some (.int .i64 0)) ∧ wr.cell? ⟨Wb, 7, none⟩ = some (.pointer (some ⟨B, 0, none⟩)) ∧ wr.cell? ⟨A, 1, none⟩ = some (.int .i64 fd) := fun wr g C k n x => ⟨⟨x.is.cellW rfl, x.is.cellW rfl, x.is.cellW rfl, x.is.cellW rfl, x.is.cellW rfl, x.is.cellW rfl⟩, x.is.cellW rfl, x.cellA rfl⟩
  have hS2 : ∀ wr g C k n, Ia w wr lo Wb H M G B g (wlC M B n v u.bad) C A #[.int .i64 k, .int .i64 fd, .int .i64 (vd - 1), .int .i64 (ed - 1)] → (wr.cell? ⟨Wb, 0, none⟩ = some (.int .i64 40) ∧ wr.cell? ⟨Wb, 1, none⟩ = some (.int .i64 3) ∧ wr.cell? ⟨Wb, 2, none⟩ = some (.int .i64 1) ∧ wr.cell? ⟨Wb, 3, none⟩ = some (.int .i64 1) ∧ wr.cell? ⟨Wb, 4, none⟩ = some (.int .i64 9) ∧ wr.cell? ⟨Wb, 5, none⟩ = some (.int .i64 0)) ∧ wr.cell? ⟨Wb, 7, none⟩ = some (.pointer (some ⟨B, 0, none⟩)) := fun wr g C k n x => ⟨⟨x.is.cellW rfl, x.is.cellW rfl, x.is.cellW rfl, x.is.cellW rfl, x.is.cellW rfl, x.is.cellW rfl⟩, x.is.cellW rfl⟩
  have hS3 : ∀ wr g C k n, Ia w wr lo Wb H M G B g (wlC M B n v u.bad) C A #[.int .i64 k, .int .i64 fd, .int .i64 (vd - 1), .int .i64 (ed - 1)] → (wr.cell? ⟨Wb, 0, none⟩ = some (.int .i64 40) ∧ wr.cell? ⟨Wb, 1, none⟩ = some (.int .i64 3) ∧ wr.cell? ⟨Wb, 2, none⟩ = some (.int .i64 1) ∧ wr.cell? ⟨Wb, 3, none⟩ = some (.int .i64 1) ∧ wr.cell? ⟨Wb, 4, none⟩ = some (.int .i64 9) ∧ wr.cell? ⟨Wb, 5, none⟩ = some (.int .i64 0)) ∧ wr.cell? ⟨Wb, 6, none⟩ = some (.pointer (some ⟨M, 0, none⟩)) ∧ wr.cell? ⟨Wb, 8, none⟩ = some (.int .i64 n) ∧ wr.cell? ⟨A, 2, none⟩ = some (.int .i64 (vd - 1)) := fun wr g C k n x => ⟨⟨x.is.cellW rfl, x.is.cellW rfl, x.is.cellW rfl, x.is.cellW rfl, x.is.cellW rfl, x.is.cellW rfl⟩, x.is.cellW rfl, x.is.cellW rfl, x.cellA rfl⟩
  have hS4 : ∀ wr g C k n, Ia w wr lo Wb H M G B g (wlC M B n v u.bad) C A #[.int .i64 k, .int .i64 fd, .int .i64 (vd - 1), .int .i64 (ed - 1)] → (wr.cell? ⟨Wb, 0, none⟩ = some (.int .i64 40) ∧ wr.cell? ⟨Wb, 1, none⟩ = some (.int .i64 3) ∧ wr.cell? ⟨Wb, 2, none⟩ = some (.int .i64 1) ∧ wr.cell? ⟨Wb, 3, none⟩ = some (.int .i64 1) ∧ wr.cell? ⟨Wb, 4, none⟩ = some (.int .i64 9) ∧ wr.cell? ⟨Wb, 5, none⟩ = some (.int .i64 0)) ∧ wr.cell? ⟨Wb, 7, none⟩ = some (.pointer (some ⟨B, 0, none⟩)) ∧ wr.cell? ⟨Wb, 8, none⟩ = some (.int .i64 n) ∧ wr.cell? ⟨A, 1, none⟩ = some (.int .i64 fd) := fun wr g C k n x => ⟨⟨x.is.cellW rfl, x.is.cellW rfl, x.is.cellW rfl, x.is.cellW rfl, x.is.cellW rfl, x.is.cellW rfl⟩, x.is.cellW rfl, x.is.cellW rfl, x.cellA rfl⟩
  obtain ⟨f, hf⟩ : ∃ f : Nat, (f : Int) = fd := ⟨fd.toNat, by omega⟩
  have hf2 : f < 3 := by omega
  have hfN : KC.bd 0 f < KC.N := by rw [KC_bd, KC_N]; omega
  replace hf : Hid ((f : Int) = fd) := hf
  have hlt : Wb < A ∧ H < A ∧ M < A ∧ G < A ∧ B < A := ⟨hAW, hAH, hMG.1, hMG.2.1, hBl⟩
  have hw6' : ∀ x y, (wlC M B x v u.bad).setIfInBounds 6 (.pointer (some ⟨M, 0, none⟩)) = wlC M B x v u.bad ∧ (wlC M B x v u.bad).setIfInBounds 8 (.int .i64 y) = wlC M B y v u.bad := fun x y => ⟨rfl, rfl⟩
  rcases hkd with rfl | rfl | rfl | rfl
  · have cR := fun w => mkRead (f := f) hf2 hf.out B w
    go_quiet (fail)
    replace ia := ia.below (Hh.below_drewN (Below.refl _ _) nq)
    clear l0 x0 x8
    generalize w4.drewN nq = w5 at *
    have m1 : w5.cell? ⟨H, o + 1, none⟩ = some (.pointer none) := ia.is.cellH (by rw [get_set_ne (by omega)]; exact n1)
    have fH1 := ia.is.freeH (o + 1)
    go_upto_region 12 with fail
    replace ia := ia.setH (o + 1) (.pointer (some ⟨A, 0, none⟩))
    clear m1 fH1
    generalize w5.setCell ⟨H, o + 1, none⟩ (.pointer (some ⟨A, 0, none⟩)) = w6 at *
    have l0 : w6.cell? ⟨A, 0, none⟩ = some (.int .i64 0) := ia.cellA rfl
    go_upto_region 20 with fail
    replace ia := ia.drew
    obtain ⟨v2, hv2⟩ : ∃ v2, ((C.setIfInBounds o vs).setIfInBounds (o + 1) (.pointer (some ⟨A, 0, none⟩)))[o + 2]? = some v2 := ⟨_, Array.getElem?_eq_getElem (by simp; omega)⟩
    have m2 := ia.is.cellH hv2
    have fH2 := ia.is.freeH (o + 2)
    clear l0
    go_region_held (fun wr => (wr.cell? ⟨Wb, 0, none⟩ = some (.int .i64 40) ∧ wr.cell? ⟨Wb, 1, none⟩ = some (.int .i64 3) ∧ wr.cell? ⟨Wb, 2, none⟩ = some (.int .i64 1) ∧ wr.cell? ⟨Wb, 3, none⟩ = some (.int .i64 1) ∧ wr.cell? ⟨Wb, 4, none⟩ = some (.int .i64 9) ∧ wr.cell? ⟨Wb, 5, none⟩ = some (.int .i64 0)) ∧ wr.cell? ⟨Wb, 7, none⟩ = some (.pointer (some ⟨B, 0, none⟩)) ∧ wr.cell? ⟨A, 1, none⟩ = some (.int .i64 fd)) (first | with_reducible exact hS _ _ _ _ _ ia | with_reducible exact hS _ _ _ _ _ (ia.setH _ _) | with_reducible exact hS _ _ _ _ _ (ia.setH _ _).drew)
      ((go_at_call 47; with_reducible refine (cR _).mono ?_; rintro e w7 ⟨P, c, rfl, hP, hR, hPl, hbb⟩; have hsz6 := ia.is.cd.size; replace ia := ia.below hbb; have m2 := ia.is.cellH hv2; have fH2 := ia.is.freeH (o + 2)))
    go_wp2
    go_ret
    have hPn : w.heap.size ≤ P := by omega
    have hPP := (Below.heap_setCell w7 ⟨H, o + 2, none⟩ (.pointer (some ⟨P, 0, none⟩)) P (by have := hlt.2.1; have := hAe.out; show P ≠ H; omega)).trans hP
    replace ia := ia.setH (o + 2) (.pointer (some ⟨P, 0, none⟩))
    refine ⟨rfl, ?_⟩
    have hNo := hN.out.trans (show _ = (⟨0, fd, vd - 1, ed - 1⟩ : Ac) by first | (congr 1; split <;> first | omega | simp_all) | (congr 1))
    obtain rfl : an = _ := han.out.symm.trans hNo
    refine bgd2_of (a := ⟨0, fd, vd - 1, ed - 1⟩) ia row ((Same.set _ _ (by omega)).trans ((Same.set _ _ (by omega)).trans (Same.set _ _ (by omega)))) hsz (by rw [get_set_ne (by omega), get_set_ne (by omega)]; exact get_set (by omega)) hacts (by rw [get_set_ne (by omega)]; exact get_set (by simp; omega)) (mc := .read ⟨-1, -1, 0, nw0 (KC.bd 0 f), 0⟩) ?_ ⟨?_, ?_, P, c, get_set (by simp; omega), rfl, hPP, hR, rd0_ok hfN⟩ rfl ?_ (by rw [hAe.out]; exact hlt) (by rw [hAe.out]; exact lo1.2.2.2.2)
    · show (beg _ _) = _; have hft : fd.toNat = f := by have := hf.out; omega
      simp [beg, hft]
    · rw [get_set_ne (by omega), get_set_ne (by omega), get_set_ne (by omega)]; exact n5
    · rw [get_set_ne (by omega), get_set_ne (by omega), get_set_ne (by omega)]; exact n6
    · intro i hi
      simp at hi
      subst hi
      exact hPn
  · by_cases h40 : 40 ≤ u.next
    · have h40I : (40 : Int) ≤ (u.next : Int) := by omega
      have cR := fun w => mkRead (f := f) hf2 hf.out B w
      go_quiet (fail)
      replace ia := ia.below (Hh.below_drewN (Below.refl _ _) nq)
      clear l0 x0 x8
      generalize w4.drewN nq = w5 at *
      have l0 : w5.cell? ⟨A, 0, none⟩ = some (.int .i64 1) := ia.cellA rfl
      have fz0 := ia.freeA 0
      go_upto_region 11 with fail
      replace ia := ia.setA 0 (.int .i64 0)
      simp only [List.setIfInBounds_toArray, List.set_cons_zero] at ia
      clear l0 fz0
      generalize w5.setCell ⟨A, 0, none⟩ (.int .i64 0) = w5 at *
      have m1 : w5.cell? ⟨H, o + 1, none⟩ = some (.pointer none) := ia.is.cellH (by rw [get_set_ne (by omega)]; exact n1)
      have fH1 := ia.is.freeH (o + 1)
      go_upto_region 12 with fail
      replace ia := ia.setH (o + 1) (.pointer (some ⟨A, 0, none⟩))
      clear m1 fH1
      generalize w5.setCell ⟨H, o + 1, none⟩ (.pointer (some ⟨A, 0, none⟩)) = w6 at *
      have l0 : w6.cell? ⟨A, 0, none⟩ = some (.int .i64 0) := ia.cellA rfl
      go_upto_region 20 with fail
      replace ia := ia.drew
      obtain ⟨v2, hv2⟩ : ∃ v2, ((C.setIfInBounds o vs).setIfInBounds (o + 1) (.pointer (some ⟨A, 0, none⟩)))[o + 2]? = some v2 := ⟨_, Array.getElem?_eq_getElem (by simp; omega)⟩
      have m2 := ia.is.cellH hv2
      have fH2 := ia.is.freeH (o + 2)
      clear l0
      go_region_held (fun wr => (wr.cell? ⟨Wb, 0, none⟩ = some (.int .i64 40) ∧ wr.cell? ⟨Wb, 1, none⟩ = some (.int .i64 3) ∧ wr.cell? ⟨Wb, 2, none⟩ = some (.int .i64 1) ∧ wr.cell? ⟨Wb, 3, none⟩ = some (.int .i64 1) ∧ wr.cell? ⟨Wb, 4, none⟩ = some (.int .i64 9) ∧ wr.cell? ⟨Wb, 5, none⟩ = some (.int .i64 0)) ∧ wr.cell? ⟨Wb, 7, none⟩ = some (.pointer (some ⟨B, 0, none⟩)) ∧ wr.cell? ⟨A, 1, none⟩ = some (.int .i64 fd)) (first | with_reducible exact hS _ _ _ _ _ ia | with_reducible exact hS _ _ _ _ _ (ia.setH _ _) | with_reducible exact hS _ _ _ _ _ (ia.setH _ _).drew)
        ((go_at_call 47; with_reducible refine (cR _).mono ?_; rintro e w7 ⟨P, c, rfl, hP, hR, hPl, hbb⟩; have hsz6 := ia.is.cd.size; replace ia := ia.below hbb; have m2 := ia.is.cellH hv2; have fH2 := ia.is.freeH (o + 2)))
      go_wp2
      go_ret
      have hPn : w.heap.size ≤ P := by omega
      have hPP := (Below.heap_setCell w7 ⟨H, o + 2, none⟩ (.pointer (some ⟨P, 0, none⟩)) P (by have := hlt.2.1; have := hAe.out; show P ≠ H; omega)).trans hP
      replace ia := ia.setH (o + 2) (.pointer (some ⟨P, 0, none⟩))
      refine ⟨rfl, ?_⟩
      have hNo := hN.out.trans (show _ = (⟨0, fd, vd - 1, ed - 1⟩ : Ac) by first | (congr 1; split <;> first | omega | simp_all) | (congr 1))
      obtain rfl : an = _ := han.out.symm.trans hNo
      refine bgd2_of (a := ⟨0, fd, vd - 1, ed - 1⟩) ia row ((Same.set _ _ (by omega)).trans ((Same.set _ _ (by omega)).trans (Same.set _ _ (by omega)))) hsz (by rw [get_set_ne (by omega), get_set_ne (by omega)]; exact get_set (by omega)) hacts (by rw [get_set_ne (by omega)]; exact get_set (by simp; omega)) (mc := .read ⟨-1, -1, 0, nw0 (KC.bd 0 f), 0⟩) ?_ ⟨?_, ?_, P, c, get_set (by simp; omega), rfl, hPP, hR, rd0_ok hfN⟩ rfl ?_ (by rw [hAe.out]; exact hlt) (by rw [hAe.out]; exact lo1.2.2.2.2)
      · show (beg _ _) = _; have hft : fd.toNat = f := by have := hf.out; omega
        simp [beg, hft]
      · rw [get_set_ne (by omega), get_set_ne (by omega), get_set_ne (by omega)]; exact n5
      · rw [get_set_ne (by omega), get_set_ne (by omega), get_set_ne (by omega)]; exact n6
      · intro i hi
        simp at hi
        subst hi
        exact hPn
    · have h40I : ¬ (40 : Int) ≤ (u.next : Int) := by omega
      go_quiet (fail)
      replace ia := ia.below (Hh.below_drewN (Below.refl _ _) nq)
      clear l0 x0 x8
      generalize w4.drewN nq = w5 at *
      have m1 : w5.cell? ⟨H, o + 1, none⟩ = some (.pointer none) := ia.is.cellH (by rw [get_set_ne (by omega)]; exact n1)
      have fH1 := ia.is.freeH (o + 1)
      go_upto_region 12 with fail
      replace ia := ia.setH (o + 1) (.pointer (some ⟨A, 0, none⟩))
      clear m1 fH1
      generalize w5.setCell ⟨H, o + 1, none⟩ (.pointer (some ⟨A, 0, none⟩)) = w6 at *
      have l0 : w6.cell? ⟨A, 0, none⟩ = some (.int .i64 1) := ia.cellA rfl
      obtain ⟨ex, hex⟩ : ∃ ex : Int, Hid (-2 = ex) := ⟨_, rfl⟩
      go_upto_region 16 with fail
      clear l0
      have cV := slot_any (vd - 1) (by omega)
      have hsv : 0 ≤ sl (vd - 1) + 1 ∧ sl (vd - 1) + 1 < 10 := by unfold sl; split <;> omega
      obtain ⟨sv, hsv0⟩ : ∃ sv, sl (vd - 1) = sv := ⟨_, rfl⟩
      rw [hsv0] at cV hsv
      replace hsv0 : Hid (sl (vd - 1) = sv) := hsv0
      have hn40 : u.next < 40 := by omega
      have cA : ∀ w, Calls Tryz.prog 11 #[.agg #[.int .i64 40, .int .i64 3, .int .i64 1, .int .i64 1, .int .i64 9, .int .i64 0], .string ⟨#[98, 111, 100, 121]⟩, .int .i64 (u.next : Nat), .int .i64 0] w fun e w' => e = .returned (.int .i64 (KC.bd u.next 0 : Nat)) ∧ Below w.heap.size w w' := fun w => at_body hn40 (i := 0) (by omega) w
      have hbN : KC.bd u.next 0 < KC.N := by rw [KC_bd, KC_N]; omega
      obtain ⟨pl, hpl⟩ : ∃ pl, KC.bd u.next 0 = pl := ⟨_, rfl⟩
      rw [hpl] at cA hbN
      replace hpl : Hid (KC.bd u.next 0 = pl) := hpl
      have cL : ∀ wr cw C, Ia w wr lo Wb H M G B u.g cw C A #[.int .i64 1, .int .i64 fd, .int .i64 (vd - 1), .int .i64 (ed - 1)] → Calls Tryz.prog 48 #[.pointer (some ⟨M, 0, none⟩), .int .i64 (pl : Nat), .int .u64 (IntKind.u64.wrap (IntKind.i64.wrap (sv + 1)))] wr fun e w' => e = .returned (.pointer (some ⟨M, 0, none⟩)) ∧ Ia w w' lo Wb H M G B { u.g with X := u.g.X.set pl (sv + 1).toNat, T := u.g.T + 1 } cw C A #[.int .i64 1, .int .i64 fd, .int .i64 (vd - 1), .int .i64 (ed - 1)] := fun wr cw C x => by
        rw [IntWalk.i64_in (sv + 1) (by omega), IntWalk.u64_in (sv + 1) (by omega), show sv + 1 = (((sv + 1).toNat : Nat) : Int) by omega]
        exact (laid_any x.is.gw hbN (by omega) (by omega)).mono fun _ _ ⟨h1, h2, h3⟩ => ⟨h1, x.only h2 h3⟩
      replace ia := ia.drew
      have fW6 := ia.is.freeW 6
      go_region_held (fun wr => (wr.cell? ⟨Wb, 0, none⟩ = some (.int .i64 40) ∧ wr.cell? ⟨Wb, 1, none⟩ = some (.int .i64 3) ∧ wr.cell? ⟨Wb, 2, none⟩ = some (.int .i64 1) ∧ wr.cell? ⟨Wb, 3, none⟩ = some (.int .i64 1) ∧ wr.cell? ⟨Wb, 4, none⟩ = some (.int .i64 9) ∧ wr.cell? ⟨Wb, 5, none⟩ = some (.int .i64 0)) ∧ wr.cell? ⟨Wb, 6, none⟩ = some (.pointer (some ⟨M, 0, none⟩)) ∧ wr.cell? ⟨Wb, 8, none⟩ = some (.int .i64 (u.next : Nat)) ∧ wr.cell? ⟨A, 2, none⟩ = some (.int .i64 (vd - 1))) (first | with_reducible exact hS3 _ _ _ _ _ ia | with_reducible exact hS3 _ _ _ _ _ i2 | with_reducible exact hS3 _ _ _ _ _ i3 | with_reducible exact hS3 _ _ _ _ _ i3.drew)
        (first
          | (go_at_call 11; with_reducible refine (cA _).mono ?_; rintro e w7 ⟨rfl, hbb⟩; replace ia := ia.below hbb; clear hbb)
          | (go_at_call 34; with_reducible refine (cV _).mono ?_; rintro e w7 ⟨rfl, rfl⟩)
          | (go_at_call 48; with_reducible refine (cL _ _ _ ia).mono ?_; rintro e w8 ⟨rfl, i2⟩; have i3 := i2.setW 6 (.pointer (some ⟨M, 0, none⟩)); have fW6 := i2.is.freeW 6; rw [(hw6' _ 0).1] at i3))
      clear ia i2 fW6 cL cA cV
      go_upto_region 17 with fail
      generalize w8.setCell ⟨Wb, 6, none⟩ (.pointer (some ⟨M, 0, none⟩)) = w9 at *
      have cY : ∀ w, Calls Tryz.prog 49 #[.agg #[.int .i64 40, .int .i64 3, .int .i64 1, .int .i64 1, .int .i64 9, .int .i64 0], .int .i64 0, .int .i64 fd, .int .i64 (u.next : Nat), .int .i64 (-2), .int .u64 2, .pointer (some ⟨B, 0, none⟩)] w fun e w' => ∃ P c, e = .returned (.pointer (some ⟨P, 0, none⟩)) ∧ w'.heap[P]? = some (.cells c 94 (0, 0)) ∧ LaAt c B KC ⟨false, 0, nw0 (KC.bd 0 f), u.next, (-2), 2, none, 0⟩ ∧ w.heap.size ≤ P ∧ Below w.heap.size w w' := fun w => mkLay (ep := 2) hf2 hn40 hf.out rfl B w
      have ia := i3.drew
      clear i3
      obtain ⟨v2, hv2⟩ : ∃ v2, ((C.setIfInBounds o vs).setIfInBounds (o + 1) (.pointer (some ⟨A, 0, none⟩)))[o + 3]? = some v2 := ⟨_, Array.getElem?_eq_getElem (by simp; omega)⟩
      have m2 := ia.is.cellH hv2
      have fH2 := ia.is.freeH (o + 3)
      go_region_held (fun wr => (wr.cell? ⟨Wb, 0, none⟩ = some (.int .i64 40) ∧ wr.cell? ⟨Wb, 1, none⟩ = some (.int .i64 3) ∧ wr.cell? ⟨Wb, 2, none⟩ = some (.int .i64 1) ∧ wr.cell? ⟨Wb, 3, none⟩ = some (.int .i64 1) ∧ wr.cell? ⟨Wb, 4, none⟩ = some (.int .i64 9) ∧ wr.cell? ⟨Wb, 5, none⟩ = some (.int .i64 0)) ∧ wr.cell? ⟨Wb, 7, none⟩ = some (.pointer (some ⟨B, 0, none⟩)) ∧ wr.cell? ⟨Wb, 8, none⟩ = some (.int .i64 (u.next : Nat)) ∧ wr.cell? ⟨A, 1, none⟩ = some (.int .i64 fd)) (first | with_reducible exact hS4 _ _ _ _ _ ia | with_reducible exact hS4 _ _ _ _ _ (ia.setH _ _) | with_reducible exact hS4 _ _ _ _ _ (ia.setH _ _).drew)
        ((go_at_call 49; with_reducible refine (cY _).mono ?_; rintro e w10 ⟨P, c, rfl, hP, hR, hPl, hbb⟩; have hsz6 := ia.is.cd.size; replace ia := ia.below hbb; have m2 := ia.is.cellH hv2; have fH2 := ia.is.freeH (o + 3)))
      have hPn : w.heap.size ≤ P := by omega
      have hPP := (Below.heap_setCell w10 ⟨H, o + 3, none⟩ (.pointer (some ⟨P, 0, none⟩)) P (by have := hlt.2.1; have := hAe.out; show P ≠ H; omega)).trans hP
      replace ia := ia.setH (o + 3) (.pointer (some ⟨P, 0, none⟩))
      clear m2 fH2 hP
      go_upto_region 18 with fail
      generalize w10.setCell ⟨H, o + 3, none⟩ (.pointer (some ⟨P, 0, none⟩)) = w11 at *
      have x8 : w11.cell? ⟨Wb, 8, none⟩ = some (.int .i64 (u.next : Nat)) := ia.is.cellW rfl
      have fW8 := ia.is.freeW 8
      go_wp2
      go_ret
      replace hPP := (Below.heap_setCell w11 ⟨Wb, 8, none⟩ (.int .i64 ((u.next : Int) + 1)) P (by have := hlt.1; have := hAe.out; show P ≠ Wb; omega)).trans hPP
      replace ia := ia.setW 8 (.int .i64 ((u.next : Int) + 1))
      rw [(hw6' _ _).2] at ia
      refine ⟨rfl, ?_⟩
      have hNo := hN.out.trans (show _ = (⟨1, fd, vd - 1, ed - 1⟩ : Ac) by first | (congr 1; split <;> first | omega | simp_all) | (congr 1))
      obtain rfl : an = _ := han.out.symm.trans hNo
      refine bgd2_of (a := ⟨1, fd, vd - 1, ed - 1⟩) ia row ((Same.set _ _ (by omega)).trans ((Same.set _ _ (by omega)).trans (Same.set _ _ (by omega)))) hsz (by rw [get_set_ne (by omega), get_set_ne (by omega)]; exact get_set (by omega)) hacts (by rw [get_set_ne (by omega)]; exact get_set (by simp; omega)) (mc := .lay ⟨false, 0, nw0 (KC.bd 0 f), u.next, (-2), 2, none, 0⟩) ?_ ⟨?_, ?_, P, c, get_set (by simp; omega), rfl, hPP, hR, la0_ok hfN hn40 (by omega), la0_sh _ _ _ _ _ _ _ _ _ _⟩ (.inl rfl) ?_ (by rw [hAe.out]; exact hlt) (by rw [hAe.out]; exact lo1.2.2.2.2)
      · have hft : fd.toNat = f := by have := hf.out; omega
        have hpo := hpl.out
        have hso := hsv0.out
        simp [beg, hft, hpo, hso]
      · rw [get_set_ne (by omega), get_set_ne (by omega), get_set_ne (by omega)]; exact n5
      · rw [get_set_ne (by omega), get_set_ne (by omega), get_set_ne (by omega)]; exact n6
      · intro i hi
        simp [La.qs] at hi
        subst hi
        exact hPn
  · by_cases h40 : 40 ≤ u.next
    · have h40I : (40 : Int) ≤ (u.next : Int) := by omega
      have cR := fun w => mkRead (f := f) hf2 hf.out B w
      go_quiet (fail)
      replace ia := ia.below (Hh.below_drewN (Below.refl _ _) nq)
      clear l0 x0 x8
      generalize w4.drewN nq = w5 at *
      have l0 : w5.cell? ⟨A, 0, none⟩ = some (.int .i64 2) := ia.cellA rfl
      have fz0 := ia.freeA 0
      go_upto_region 11 with fail
      replace ia := ia.setA 0 (.int .i64 0)
      simp only [List.setIfInBounds_toArray, List.set_cons_zero] at ia
      clear l0 fz0
      generalize w5.setCell ⟨A, 0, none⟩ (.int .i64 0) = w5 at *
      have m1 : w5.cell? ⟨H, o + 1, none⟩ = some (.pointer none) := ia.is.cellH (by rw [get_set_ne (by omega)]; exact n1)
      have fH1 := ia.is.freeH (o + 1)
      go_upto_region 12 with fail
      replace ia := ia.setH (o + 1) (.pointer (some ⟨A, 0, none⟩))
      clear m1 fH1
      generalize w5.setCell ⟨H, o + 1, none⟩ (.pointer (some ⟨A, 0, none⟩)) = w6 at *
      have l0 : w6.cell? ⟨A, 0, none⟩ = some (.int .i64 0) := ia.cellA rfl
      go_upto_region 20 with fail
      replace ia := ia.drew
      obtain ⟨v2, hv2⟩ : ∃ v2, ((C.setIfInBounds o vs).setIfInBounds (o + 1) (.pointer (some ⟨A, 0, none⟩)))[o + 2]? = some v2 := ⟨_, Array.getElem?_eq_getElem (by simp; omega)⟩
      have m2 := ia.is.cellH hv2
      have fH2 := ia.is.freeH (o + 2)
      clear l0
      go_region_held (fun wr => (wr.cell? ⟨Wb, 0, none⟩ = some (.int .i64 40) ∧ wr.cell? ⟨Wb, 1, none⟩ = some (.int .i64 3) ∧ wr.cell? ⟨Wb, 2, none⟩ = some (.int .i64 1) ∧ wr.cell? ⟨Wb, 3, none⟩ = some (.int .i64 1) ∧ wr.cell? ⟨Wb, 4, none⟩ = some (.int .i64 9) ∧ wr.cell? ⟨Wb, 5, none⟩ = some (.int .i64 0)) ∧ wr.cell? ⟨Wb, 7, none⟩ = some (.pointer (some ⟨B, 0, none⟩)) ∧ wr.cell? ⟨A, 1, none⟩ = some (.int .i64 fd)) (first | with_reducible exact hS _ _ _ _ _ ia | with_reducible exact hS _ _ _ _ _ (ia.setH _ _) | with_reducible exact hS _ _ _ _ _ (ia.setH _ _).drew)
        ((go_at_call 47; with_reducible refine (cR _).mono ?_; rintro e w7 ⟨P, c, rfl, hP, hR, hPl, hbb⟩; have hsz6 := ia.is.cd.size; replace ia := ia.below hbb; have m2 := ia.is.cellH hv2; have fH2 := ia.is.freeH (o + 2)))
      go_wp2
      go_ret
      have hPn : w.heap.size ≤ P := by omega
      have hPP := (Below.heap_setCell w7 ⟨H, o + 2, none⟩ (.pointer (some ⟨P, 0, none⟩)) P (by have := hlt.2.1; have := hAe.out; show P ≠ H; omega)).trans hP
      replace ia := ia.setH (o + 2) (.pointer (some ⟨P, 0, none⟩))
      refine ⟨rfl, ?_⟩
      have hNo := hN.out.trans (show _ = (⟨0, fd, vd - 1, ed - 1⟩ : Ac) by first | (congr 1; split <;> first | omega | simp_all) | (congr 1))
      obtain rfl : an = _ := han.out.symm.trans hNo
      refine bgd2_of (a := ⟨0, fd, vd - 1, ed - 1⟩) ia row ((Same.set _ _ (by omega)).trans ((Same.set _ _ (by omega)).trans (Same.set _ _ (by omega)))) hsz (by rw [get_set_ne (by omega), get_set_ne (by omega)]; exact get_set (by omega)) hacts (by rw [get_set_ne (by omega)]; exact get_set (by simp; omega)) (mc := .read ⟨-1, -1, 0, nw0 (KC.bd 0 f), 0⟩) ?_ ⟨?_, ?_, P, c, get_set (by simp; omega), rfl, hPP, hR, rd0_ok hfN⟩ rfl ?_ (by rw [hAe.out]; exact hlt) (by rw [hAe.out]; exact lo1.2.2.2.2)
      · show (beg _ _) = _; have hft : fd.toNat = f := by have := hf.out; omega
        simp [beg, hft]
      · rw [get_set_ne (by omega), get_set_ne (by omega), get_set_ne (by omega)]; exact n5
      · rw [get_set_ne (by omega), get_set_ne (by omega), get_set_ne (by omega)]; exact n6
      · intro i hi
        simp at hi
        subst hi
        exact hPn
    · have h40I : ¬ (40 : Int) ≤ (u.next : Int) := by omega
      go_quiet (fail)
      replace ia := ia.below (Hh.below_drewN (Below.refl _ _) nq)
      clear l0 x0 x8
      generalize w4.drewN nq = w5 at *
      have m1 : w5.cell? ⟨H, o + 1, none⟩ = some (.pointer none) := ia.is.cellH (by rw [get_set_ne (by omega)]; exact n1)
      have fH1 := ia.is.freeH (o + 1)
      go_upto_region 12 with fail
      replace ia := ia.setH (o + 1) (.pointer (some ⟨A, 0, none⟩))
      clear m1 fH1
      generalize w5.setCell ⟨H, o + 1, none⟩ (.pointer (some ⟨A, 0, none⟩)) = w6 at *
      have l0 : w6.cell? ⟨A, 0, none⟩ = some (.int .i64 2) := ia.cellA rfl
      have l3 : w6.cell? ⟨A, 3, none⟩ = some (.int .i64 (ed - 1)) := ia.cellA rfl
      have cE := slot_any (ed - 1) (by omega)
      obtain ⟨ex, hex⟩ : ∃ ex, sl (ed - 1) = ex := ⟨_, rfl⟩
      rw [hex] at cE
      replace hex : Hid (sl (ed - 1) = ex) := hex
      go_upto_region 16 with (go_at_call 34; with_reducible refine (cE _).mono ?_; rintro e w6' ⟨rfl, rfl⟩)
      clear l3
      clear l0
      have cV := slot_any (vd - 1) (by omega)
      have hsv : 0 ≤ sl (vd - 1) + 1 ∧ sl (vd - 1) + 1 < 10 := by unfold sl; split <;> omega
      obtain ⟨sv, hsv0⟩ : ∃ sv, sl (vd - 1) = sv := ⟨_, rfl⟩
      rw [hsv0] at cV hsv
      replace hsv0 : Hid (sl (vd - 1) = sv) := hsv0
      have hn40 : u.next < 40 := by omega
      have cA : ∀ w, Calls Tryz.prog 11 #[.agg #[.int .i64 40, .int .i64 3, .int .i64 1, .int .i64 1, .int .i64 9, .int .i64 0], .string ⟨#[98, 111, 100, 121]⟩, .int .i64 (u.next : Nat), .int .i64 0] w fun e w' => e = .returned (.int .i64 (KC.bd u.next 0 : Nat)) ∧ Below w.heap.size w w' := fun w => at_body hn40 (i := 0) (by omega) w
      have hbN : KC.bd u.next 0 < KC.N := by rw [KC_bd, KC_N]; omega
      obtain ⟨pl, hpl⟩ : ∃ pl, KC.bd u.next 0 = pl := ⟨_, rfl⟩
      rw [hpl] at cA hbN
      replace hpl : Hid (KC.bd u.next 0 = pl) := hpl
      have cL : ∀ wr cw C, Ia w wr lo Wb H M G B u.g cw C A #[.int .i64 2, .int .i64 fd, .int .i64 (vd - 1), .int .i64 (ed - 1)] → Calls Tryz.prog 48 #[.pointer (some ⟨M, 0, none⟩), .int .i64 (pl : Nat), .int .u64 (IntKind.u64.wrap (IntKind.i64.wrap (sv + 1)))] wr fun e w' => e = .returned (.pointer (some ⟨M, 0, none⟩)) ∧ Ia w w' lo Wb H M G B { u.g with X := u.g.X.set pl (sv + 1).toNat, T := u.g.T + 1 } cw C A #[.int .i64 2, .int .i64 fd, .int .i64 (vd - 1), .int .i64 (ed - 1)] := fun wr cw C x => by
        rw [IntWalk.i64_in (sv + 1) (by omega), IntWalk.u64_in (sv + 1) (by omega), show sv + 1 = (((sv + 1).toNat : Nat) : Int) by omega]
        exact (laid_any x.is.gw hbN (by omega) (by omega)).mono fun _ _ ⟨h1, h2, h3⟩ => ⟨h1, x.only h2 h3⟩
      replace ia := ia.drew
      have fW6 := ia.is.freeW 6
      go_region_held (fun wr => (wr.cell? ⟨Wb, 0, none⟩ = some (.int .i64 40) ∧ wr.cell? ⟨Wb, 1, none⟩ = some (.int .i64 3) ∧ wr.cell? ⟨Wb, 2, none⟩ = some (.int .i64 1) ∧ wr.cell? ⟨Wb, 3, none⟩ = some (.int .i64 1) ∧ wr.cell? ⟨Wb, 4, none⟩ = some (.int .i64 9) ∧ wr.cell? ⟨Wb, 5, none⟩ = some (.int .i64 0)) ∧ wr.cell? ⟨Wb, 6, none⟩ = some (.pointer (some ⟨M, 0, none⟩)) ∧ wr.cell? ⟨Wb, 8, none⟩ = some (.int .i64 (u.next : Nat)) ∧ wr.cell? ⟨A, 2, none⟩ = some (.int .i64 (vd - 1))) (first | with_reducible exact hS3 _ _ _ _ _ ia | with_reducible exact hS3 _ _ _ _ _ i2 | with_reducible exact hS3 _ _ _ _ _ i3 | with_reducible exact hS3 _ _ _ _ _ i3.drew)
        (first
          | (go_at_call 11; with_reducible refine (cA _).mono ?_; rintro e w7 ⟨rfl, hbb⟩; replace ia := ia.below hbb; clear hbb)
          | (go_at_call 34; with_reducible refine (cV _).mono ?_; rintro e w7 ⟨rfl, rfl⟩)
          | (go_at_call 48; with_reducible refine (cL _ _ _ ia).mono ?_; rintro e w8 ⟨rfl, i2⟩; have i3 := i2.setW 6 (.pointer (some ⟨M, 0, none⟩)); have fW6 := i2.is.freeW 6; rw [(hw6' _ 0).1] at i3))
      clear ia i2 fW6 cL cA cV
      go_upto_region 17 with fail
      generalize w8.setCell ⟨Wb, 6, none⟩ (.pointer (some ⟨M, 0, none⟩)) = w9 at *
      have cY : ∀ w, Calls Tryz.prog 49 #[.agg #[.int .i64 40, .int .i64 3, .int .i64 1, .int .i64 1, .int .i64 9, .int .i64 0], .int .i64 0, .int .i64 fd, .int .i64 (u.next : Nat), .int .i64 ex, .int .u64 2, .pointer (some ⟨B, 0, none⟩)] w fun e w' => ∃ P c, e = .returned (.pointer (some ⟨P, 0, none⟩)) ∧ w'.heap[P]? = some (.cells c 94 (0, 0)) ∧ LaAt c B KC ⟨false, 0, nw0 (KC.bd 0 f), u.next, ex, 2, none, 0⟩ ∧ w.heap.size ≤ P ∧ Below w.heap.size w w' := fun w => mkLay (ep := 2) hf2 hn40 hf.out rfl B w
      have ia := i3.drew
      clear i3
      obtain ⟨v2, hv2⟩ : ∃ v2, ((C.setIfInBounds o vs).setIfInBounds (o + 1) (.pointer (some ⟨A, 0, none⟩)))[o + 3]? = some v2 := ⟨_, Array.getElem?_eq_getElem (by simp; omega)⟩
      have m2 := ia.is.cellH hv2
      have fH2 := ia.is.freeH (o + 3)
      go_region_held (fun wr => (wr.cell? ⟨Wb, 0, none⟩ = some (.int .i64 40) ∧ wr.cell? ⟨Wb, 1, none⟩ = some (.int .i64 3) ∧ wr.cell? ⟨Wb, 2, none⟩ = some (.int .i64 1) ∧ wr.cell? ⟨Wb, 3, none⟩ = some (.int .i64 1) ∧ wr.cell? ⟨Wb, 4, none⟩ = some (.int .i64 9) ∧ wr.cell? ⟨Wb, 5, none⟩ = some (.int .i64 0)) ∧ wr.cell? ⟨Wb, 7, none⟩ = some (.pointer (some ⟨B, 0, none⟩)) ∧ wr.cell? ⟨Wb, 8, none⟩ = some (.int .i64 (u.next : Nat)) ∧ wr.cell? ⟨A, 1, none⟩ = some (.int .i64 fd)) (first | with_reducible exact hS4 _ _ _ _ _ ia | with_reducible exact hS4 _ _ _ _ _ (ia.setH _ _) | with_reducible exact hS4 _ _ _ _ _ (ia.setH _ _).drew)
        ((go_at_call 49; with_reducible refine (cY _).mono ?_; rintro e w10 ⟨P, c, rfl, hP, hR, hPl, hbb⟩; have hsz6 := ia.is.cd.size; replace ia := ia.below hbb; have m2 := ia.is.cellH hv2; have fH2 := ia.is.freeH (o + 3)))
      have hPn : w.heap.size ≤ P := by omega
      have hPP := (Below.heap_setCell w10 ⟨H, o + 3, none⟩ (.pointer (some ⟨P, 0, none⟩)) P (by have := hlt.2.1; have := hAe.out; show P ≠ H; omega)).trans hP
      replace ia := ia.setH (o + 3) (.pointer (some ⟨P, 0, none⟩))
      clear m2 fH2 hP
      go_upto_region 18 with fail
      generalize w10.setCell ⟨H, o + 3, none⟩ (.pointer (some ⟨P, 0, none⟩)) = w11 at *
      have x8 : w11.cell? ⟨Wb, 8, none⟩ = some (.int .i64 (u.next : Nat)) := ia.is.cellW rfl
      have fW8 := ia.is.freeW 8
      go_wp2
      go_ret
      replace hPP := (Below.heap_setCell w11 ⟨Wb, 8, none⟩ (.int .i64 ((u.next : Int) + 1)) P (by have := hlt.1; have := hAe.out; show P ≠ Wb; omega)).trans hPP
      replace ia := ia.setW 8 (.int .i64 ((u.next : Int) + 1))
      rw [(hw6' _ _).2] at ia
      refine ⟨rfl, ?_⟩
      have hNo := hN.out.trans (show _ = (⟨2, fd, vd - 1, ed - 1⟩ : Ac) by first | (congr 1; split <;> first | omega | simp_all) | (congr 1))
      obtain rfl : an = _ := han.out.symm.trans hNo
      refine bgd2_of (a := ⟨2, fd, vd - 1, ed - 1⟩) ia row ((Same.set _ _ (by omega)).trans ((Same.set _ _ (by omega)).trans (Same.set _ _ (by omega)))) hsz (by rw [get_set_ne (by omega), get_set_ne (by omega)]; exact get_set (by omega)) hacts (by rw [get_set_ne (by omega)]; exact get_set (by simp; omega)) (mc := .lay ⟨false, 0, nw0 (KC.bd 0 f), u.next, ex, 2, none, 0⟩) ?_ ⟨?_, ?_, P, c, get_set (by simp; omega), rfl, hPP, hR, la0_ok hfN hn40 (by omega), la0_sh _ _ _ _ _ _ _ _ _ _⟩ (.inr rfl) ?_ (by rw [hAe.out]; exact hlt) (by rw [hAe.out]; exact lo1.2.2.2.2)
      · have hft : fd.toNat = f := by have := hf.out; omega
        have hpo := hpl.out
        have hso := hsv0.out
        have hxo := hex.out
        simp [beg, hft, hpo, hso, hxo]
      · rw [get_set_ne (by omega), get_set_ne (by omega), get_set_ne (by omega)]; exact n5
      · rw [get_set_ne (by omega), get_set_ne (by omega), get_set_ne (by omega)]; exact n6
      · intro i hi
        simp [La.qs] at hi
        subst hi
        exact hPn
  · have cT := fun w => mkTurn B w
    go_quiet (fail)
    replace ia := ia.below (Hh.below_drewN (Below.refl _ _) nq)
    clear l0 x0 x8
    generalize w4.drewN nq = w5 at *
    have m1 : w5.cell? ⟨H, o + 1, none⟩ = some (.pointer none) := ia.is.cellH (by rw [get_set_ne (by omega)]; exact n1)
    have fH1 := ia.is.freeH (o + 1)
    go_upto_region 12 with fail
    replace ia := ia.setH (o + 1) (.pointer (some ⟨A, 0, none⟩))
    clear m1 fH1
    generalize w5.setCell ⟨H, o + 1, none⟩ (.pointer (some ⟨A, 0, none⟩)) = w6 at *
    have l0 : w6.cell? ⟨A, 0, none⟩ = some (.int .i64 3) := ia.cellA rfl
    go_upto_region 22 with fail
    replace ia := ia.drew
    obtain ⟨v2, hv2⟩ : ∃ v2, ((C.setIfInBounds o vs).setIfInBounds (o + 1) (.pointer (some ⟨A, 0, none⟩)))[o + 4]? = some v2 := ⟨_, Array.getElem?_eq_getElem (by simp; omega)⟩
    have m2 := ia.is.cellH hv2
    have fH2 := ia.is.freeH (o + 4)
    clear l0
    go_region_held (fun wr => (wr.cell? ⟨Wb, 0, none⟩ = some (.int .i64 40) ∧ wr.cell? ⟨Wb, 1, none⟩ = some (.int .i64 3) ∧ wr.cell? ⟨Wb, 2, none⟩ = some (.int .i64 1) ∧ wr.cell? ⟨Wb, 3, none⟩ = some (.int .i64 1) ∧ wr.cell? ⟨Wb, 4, none⟩ = some (.int .i64 9) ∧ wr.cell? ⟨Wb, 5, none⟩ = some (.int .i64 0)) ∧ wr.cell? ⟨Wb, 7, none⟩ = some (.pointer (some ⟨B, 0, none⟩))) (first | with_reducible exact hS2 _ _ _ _ _ ia | with_reducible exact hS2 _ _ _ _ _ (ia.setH _ _) | with_reducible exact hS2 _ _ _ _ _ (ia.setH _ _).drew)
      ((go_at_call 7; with_reducible refine (cT _).mono ?_; rintro e w7 ⟨P, c, rfl, hP, hR, hPl, hbb⟩; have hsz6 := ia.is.cd.size; replace ia := ia.below hbb; have m2 := ia.is.cellH hv2; have fH2 := ia.is.freeH (o + 4)))
    go_wp2
    go_ret
    have hPn : w.heap.size ≤ P := by omega
    have hPP := (Below.heap_setCell w7 ⟨H, o + 4, none⟩ (.pointer (some ⟨P, 0, none⟩)) P (by have := hlt.2.1; have := hAe.out; show P ≠ H; omega)).trans hP
    replace ia := ia.setH (o + 4) (.pointer (some ⟨P, 0, none⟩))
    refine ⟨rfl, ?_⟩
    have hNo := hN.out.trans (show _ = (⟨3, fd, vd - 1, ed - 1⟩ : Ac) by first | (congr 1; split <;> first | omega | simp_all) | (congr 1))
    obtain rfl : an = _ := han.out.symm.trans hNo
    refine bgd2_of (a := ⟨3, fd, vd - 1, ed - 1⟩) ia row ((Same.set _ _ (by omega)).trans ((Same.set _ _ (by omega)).trans (Same.set _ _ (by omega)))) hsz (by rw [get_set_ne (by omega), get_set_ne (by omega)]; exact get_set (by omega)) hacts (by rw [get_set_ne (by omega)]; exact get_set (by simp; omega)) (mc := .turn ⟨0, 0, 0, 0⟩) ?_ ⟨?_, ?_, P, c, get_set (by simp; omega), rfl, hPP, hR, tu0_ok⟩ rfl ?_ (by rw [hAe.out]; exact hlt) (by rw [hAe.out]; exact lo1.2.2.2.2)
    · simp [beg]
    · rw [get_set_ne (by omega), get_set_ne (by omega), get_set_ne (by omega)]; exact n5
    · rw [get_set_ne (by omega), get_set_ne (by omega), get_set_ne (by omega)]; exact n6
    · intro i hi
      simp at hi
      subst hi
      exact hPn
theorem begins2_nil {w : World} {H o : Nat} {p : Value} {ad : Option Addr} {cap : Nat} (h0 : w.cell? ⟨H, o, none⟩ = some (.slice ad 0 cap)) : Calls Tryz.prog 29 #[.pointer (some ⟨H, o, none⟩), p] w fun e w' => e = .returned (.bool false) ∧ w = w' := by
  go_enter Tryz.func29, Tryz.ntmps29
  go_wp2
  go_ret
  exact ⟨rfl, rfl⟩
end Go.Proofs.YtnegdabcjnhpdaaGreatDoor
