/- Layer 16: the law's value; its example; OpKinds. -/
import Derived.Test.YtfllkacebhcbdaaO2
namespace Go.Proofs.Ytfllkacebhcbdaa
open Go.RowKit

theorem who_at {cl self : Int} {j : Nat} : (((j : Int) = cl) ∨ (cl < 0 ∧ (j : Int) = self)) ↔ whoF cl self = j := by
  unfold whoF
  by_cases hc : cl < 0
  · rw [if_pos hc]
    constructor
    · rintro (h | ⟨_, h⟩) <;> omega
    · intro h; exact .inr ⟨hc, h.symm⟩
  · rw [if_neg hc]
    constructor
    · rintro (h | ⟨h, _⟩) <;> omega
    · intro h; exact .inl h.symm
theorem two_cells {w : World} {g : Nat} {x0 x1 x2 : Value} {e : TypeId} (h : w.heap[g]? = some (.cells #[x0, x1, x2] e (0, 0))) : w.cell? ⟨g, 0, none⟩ = some x0 ∧ w.cell? ⟨g, 1, none⟩ = some x1 ∧ w.cell? ⟨g, 2, none⟩ = some x2 := by simp [World.cell?, h]

set_option maxRecDepth 100000 in
set_option maxHeartbeats 4000000 in
theorem rvalue_any {w : World} {ad : Option Addr} {T : List (List Nat)} {len : Nat} (cap : Nat) (hl : len = T.length) (hT : RdT w ad T) (hb : len < 9223372036854775808) (of cl : Int) (raw : Nat) (self : Int) :
    Calls Try.prog 10 #[.agg #[.int .i64 of, .int .i64 cl, .int .u64 (raw : Nat)], .int .i64 self, .slice ad len cap] w fun r w' => r = .returned (.int .u64 (valF of cl raw self T : Nat)) ∧ Below w.heap.size w w' := by
  obtain ⟨fz, hfz⟩ : ∃ fz, valF of cl raw self T = fz := ⟨_, rfl⟩
  rw [hfz]
  have hq := new_obj w (.cells #[.int .i64 of, .int .i64 cl, .int .u64 (raw : Nat)] 24)
  have bel := alloc_below w (.cells #[.int .i64 of, .int .i64 cl, .int .u64 (raw : Nat)] 24)
  have HT := hid1 (hT.below bel)
  clear hT
  replace hl := hid1 hl
  go_enter Try.func10, Try.ntmps10
  go_upto_region 1 with fail
  generalize World.alloc _ _ = w1 at *
  generalize hbc : w.heap.size = bc at hq ⊢
  replace hbc := hid1 hbc
  obtain ⟨y0, y1, y2⟩ := arg_cells hq
  by_cases h0 : of < 0
  · have e : valF of cl raw self T = raw := by unfold valF; rw [if_pos h0]
    rw [e] at hfz
    replace hfz := hid1 hfz
    go_wp2
    go_ret
    exact ⟨by rw [← hfz.out]; rfl, bel⟩
  have e1 : valF of cl raw self T = if whoF cl self < 0 then 0 else (T.getD (whoF cl self).toNat []).getD of.toNat 0 := by unfold valF; rw [if_neg h0]
  rw [e1] at hfz
  clear e1
  have hof : (0 : Int) ≤ of := by omega
  have hwa := hid1 (fun (j : Nat) => who_at (cl := cl) (self := self) (j := j))
  generalize whoF cl self = who at *
  replace hfz := hid1 hfz
  replace hof := hid1 hof
  go_upto_region 4 with fail
  go_loopw [7] (fun i wr => ∃ (j : Nat), j ≤ len ∧ i = .int .i64 j ∧ Hid (fz = 0 ∨ ∀ q : Nat, q < j → who ≠ q) ∧ wr = w1) (fun i _ => len - (intOf i).toNat)
  case atStart => exact ⟨0, Nat.zero_le _, rfl, hid1 (.inr fun q hq => by omega), rfl⟩
  case round =>
    obtain ⟨j, hj, rfl, hd, rfl⟩ := hrel
    by_cases hlj : j < len
    · have hl1 : (j : Int) < (len : Int) := by omega
      have hl0 : (0 : Int) ≤ (j : Int) := by omega
      have e3 : IntKind.i64.wrap ((j : Int) + 1) = ((j + 1 : Nat) : Int) := by rw [IntKind.wrap_i64]; omega
      obtain ⟨L, hL⟩ : ∃ L, T[j]? = some L := ⟨_, List.getElem?_eq_getElem (by have := hl.out; omega)⟩
      obtain ⟨b, off, a, c, hA, hlt, z0, hR, hLb⟩ := HT.out _ L hL
      obtain ⟨ln, hln⟩ : ∃ ln, L.length = ln := ⟨_, rfl⟩
      rw [hln] at z0 hLb
      replace hln := hid1 hln
      generalize hk2 : j + 1 = j2 at *
      replace hk2 := hid1 hk2
      by_cases hw : who = j
      · have hLg : Hid (fz = L.getD of.toNat 0) := hid1 (by
          rw [← hfz.out, if_neg (by omega), hw]
          rw [Int.toNat_natCast, List.getD_eq_getElem?_getD (l := T), hL]
          rfl)
        have hcs := (hwa.out j).2 hw
        replace hL := hid1 hL
        replace hR := hid1 hR
        replace hw := hid1 hw
        have main : (cl < 0 → ((j : Int) == cl) = false ∧ ((j : Int) == self) = true) ∧ (¬ cl < 0 → ((j : Int) == cl) = true) := by
          constructor
          · intro hc
            have e1 : ¬ (j : Int) = cl := by omega
            have e2 : (j : Int) = self := by rcases hcs with h | ⟨_, h⟩ <;> omega
            exact ⟨by simpa using e1, by simpa using e2⟩
          · intro hc
            have e2 : (j : Int) = cl := by rcases hcs with h | ⟨h, _⟩ <;> omega
            simpa using e2
        clear hcs
        subst hA
        clear hL hw
        by_cases hc : cl < 0
        · obtain ⟨f1, f2⟩ := main.1 hc
          have hc1 : decide (cl < 0) = true := decide_eq_true hc
          clear main
          have HR := hid1 (fun (x : Nat) (hx : L[of.toNat]? = some x) => hR.out _ x hx)
          obtain ⟨o, ho⟩ : ∃ o : Nat, (o : Int) = of := ⟨of.toNat, by have := hof.out; omega⟩
          go_upto_region 8 with fail
          go_loopw [8] (fun i2 wr2 => ∃ (i : Nat), i ≤ ln ∧ i2 = .int .i64 i ∧ Hid (∀ q : Nat, q < i → of ≠ q) ∧ wr2 = wr) (fun i2 _ => ln - (intOf i2).toNat)
          case atStart => exact ⟨0, Nat.zero_le _, rfl, hid1 (fun q hq => by omega), rfl⟩
          case round =>
            obtain ⟨i, hi, rfl, hd2, rfl⟩ := hrel
            by_cases hli : i < ln
            · have hl2 : (i : Int) < (ln : Int) := by omega
              have hl3 : (0 : Int) ≤ (i : Int) := by omega
              have e4 : IntKind.i64.wrap ((i : Int) + 1) = ((i + 1 : Nat) : Int) := by rw [IntKind.wrap_i64]; omega
              generalize hk3 : i + 1 = i3 at *
              replace hk3 := hid1 hk3
              by_cases hio : (i : Int) = of
              · obtain ⟨x, hx⟩ : ∃ x, L[of.toNat]? = some x := ⟨_, List.getElem?_eq_getElem (by have := hln.out; omega)⟩
                have ex : L.getD of.toNat 0 = x := by rw [List.getD_eq_getElem?_getD, hx]; rfl
                have hfx : Hid (fz = x) := hid1 (by rw [hLg.out, ex])
                obtain ⟨b2, off2, hA2, hlt2, z1⟩ := HR.out x hx
                subst hA2
                have eo : of.toNat = i := by omega
                rw [eo] at z1
                have f3 : ((i : Int) == of) = true := by simpa using hio
                clear ex hx hlt2 HR ho hio eo
                go_wp2
                go_ret
                exact ⟨by rw [hfx.out]; rfl, bel⟩
              · have f3 : ((i : Int) == of) = false := by simpa using hio
                have hd3 : Hid (∀ q : Nat, q < i3 → of ≠ q) := hid1 (fun q hq => by
                  have := hk3.out
                  rcases Nat.lt_or_ge q i with h | h
                  · exact hd2.out q h
                  · omega)
                clear hio ho
                go_wp2
                go_roundw
                case rel => exact ⟨i3, by have := hk3.out; omega, rfl, hd3, trivial⟩
                case measure => (have := hk3.out; simp [intOf]; omega)
            · obtain rfl : i = ln := by omega
              have hl2 : ¬ (i : Int) < (i : Int) := by omega
              have hz : Hid (fz = 0) := hid1 (by
                rw [hLg.out, List.getD_eq_getElem?_getD, List.getElem?_eq_none]
                · rfl
                · have := hd2.out o; have := hln.out; omega)
              clear ho
              go_wp2
              go_roundw
              case rel => exact ⟨j2, by have := hk2.out; omega, rfl, hid1 (.inl hz.out), trivial⟩
              case measure => (have := hk2.out; simp [intOf]; omega)
        · have f1 := main.2 hc
          have hc1 : decide (cl < 0) = false := decide_eq_false hc
          clear main
          have HR := hid1 (fun (x : Nat) (hx : L[of.toNat]? = some x) => hR.out _ x hx)
          obtain ⟨o, ho⟩ : ∃ o : Nat, (o : Int) = of := ⟨of.toNat, by have := hof.out; omega⟩
          go_upto_region 8 with fail
          go_loopw [8] (fun i2 wr2 => ∃ (i : Nat), i ≤ ln ∧ i2 = .int .i64 i ∧ Hid (∀ q : Nat, q < i → of ≠ q) ∧ wr2 = wr) (fun i2 _ => ln - (intOf i2).toNat)
          case atStart => exact ⟨0, Nat.zero_le _, rfl, hid1 (fun q hq => by omega), rfl⟩
          case round =>
            obtain ⟨i, hi, rfl, hd2, rfl⟩ := hrel
            by_cases hli : i < ln
            · have hl2 : (i : Int) < (ln : Int) := by omega
              have hl3 : (0 : Int) ≤ (i : Int) := by omega
              have e4 : IntKind.i64.wrap ((i : Int) + 1) = ((i + 1 : Nat) : Int) := by rw [IntKind.wrap_i64]; omega
              generalize hk3 : i + 1 = i3 at *
              replace hk3 := hid1 hk3
              by_cases hio : (i : Int) = of
              · obtain ⟨x, hx⟩ : ∃ x, L[of.toNat]? = some x := ⟨_, List.getElem?_eq_getElem (by have := hln.out; omega)⟩
                have ex : L.getD of.toNat 0 = x := by rw [List.getD_eq_getElem?_getD, hx]; rfl
                have hfx : Hid (fz = x) := hid1 (by rw [hLg.out, ex])
                obtain ⟨b2, off2, hA2, hlt2, z1⟩ := HR.out x hx
                subst hA2
                have eo : of.toNat = i := by omega
                rw [eo] at z1
                have f3 : ((i : Int) == of) = true := by simpa using hio
                clear ex hx hlt2 HR ho hio eo
                go_wp2
                go_ret
                exact ⟨by rw [hfx.out]; rfl, bel⟩
              · have f3 : ((i : Int) == of) = false := by simpa using hio
                have hd3 : Hid (∀ q : Nat, q < i3 → of ≠ q) := hid1 (fun q hq => by
                  have := hk3.out
                  rcases Nat.lt_or_ge q i with h | h
                  · exact hd2.out q h
                  · omega)
                clear hio ho
                go_wp2
                go_roundw
                case rel => exact ⟨i3, by have := hk3.out; omega, rfl, hd3, trivial⟩
                case measure => (have := hk3.out; simp [intOf]; omega)
            · obtain rfl : i = ln := by omega
              have hl2 : ¬ (i : Int) < (i : Int) := by omega
              have hz : Hid (fz = 0) := hid1 (by
                rw [hLg.out, List.getD_eq_getElem?_getD, List.getElem?_eq_none]
                · rfl
                · have := hd2.out o; have := hln.out; omega)
              clear ho
              go_wp2
              go_roundw
              case rel => exact ⟨j2, by have := hk2.out; omega, rfl, hid1 (.inl hz.out), trivial⟩
              case measure => (have := hk2.out; simp [intOf]; omega)
      · have hn : ¬ ((j : Int) = cl ∨ (cl < 0 ∧ (j : Int) = self)) := fun h => hw ((hwa.out j).1 h)
        have f1 : ((j : Int) == cl) = false := by simpa using fun h => hn (.inl h)
        have hd3 : Hid (fz = 0 ∨ ∀ q : Nat, q < j2 → who ≠ q) := hid1 (by
          rcases hd.out with h | h
          · exact .inl h
          · refine .inr fun q hq => ?_
            have := hk2.out
            rcases Nat.lt_or_ge q j with h2 | h2
            · exact h q h2
            · obtain rfl : q = j := by omega
              exact hw)
        clear hw hL hR
        by_cases hc : cl < 0
        · have hc1 : decide (cl < 0) = true := decide_eq_true hc
          have f2 : ((j : Int) == self) = false := by simpa using fun h => hn (.inr ⟨hc, h⟩)
          clear hn
          go_wp2
          go_roundw
          case rel => exact ⟨j2, by have := hk2.out; omega, rfl, hd3, trivial⟩
          case measure => (have := hk2.out; simp [intOf]; omega)
        · have hc1 : decide (cl < 0) = false := decide_eq_false hc
          clear hn
          go_wp2
          go_roundw
          case rel => exact ⟨j2, by have := hk2.out; omega, rfl, hd3, trivial⟩
          case measure => (have := hk2.out; simp [intOf]; omega)
    · obtain rfl : j = len := by omega
      have hl1 : ¬ (j : Int) < (j : Int) := by omega
      have hz : Hid (fz = 0) := hid1 (by
        rcases hd.out with h | h
        · exact h
        · rw [← hfz.out]
          by_cases hn : who < 0
          · rw [if_pos hn]
          · rw [if_neg hn, List.getD_eq_getElem?_getD (l := T), List.getElem?_eq_none]
            · rfl
            · have := h who.toNat; have := hl.out; omega)
      go_wp2
      go_ret
      exact ⟨by rw [hz.out]; rfl, bel⟩
end Go.Proofs.Ytfllkacebhcbdaa
