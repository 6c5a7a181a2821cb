/- Layer 16: what an argument is: the program's Value. -/
import Derived.Test.YtfllkacebhcbdaaO0
namespace Go.Proofs.Ytfllkacebhcbdaa
open Go.RowKit

/-- Words in a slice that is read. -/
def RdU (w : World) (ad : Option Addr) (L : List Nat) : Prop := ∀ i x, L[i]? = some x → ∃ b off, ad = some ⟨b, off, none⟩ ∧ b < w.heap.size ∧ w.cell? ⟨b, off + i, none⟩ = some (.int .u64 (x : Nat))
theorem RdU.below {w w' : World} {ad : Option Addr} {L : List Nat} (h : RdU w ad L) (b : Below w.heap.size w w') : RdU w' ad L := fun i x hx => by
  obtain ⟨g, off, h1, h2, h3⟩ := h i x hx
  exact ⟨g, off, h1, Nat.lt_of_lt_of_le h2 b.size, (b.cell (p := ⟨g, off + i, none⟩) h2).trans h3⟩
/-- Lists of words in a slice that is read. -/
def RdT (w : World) (ad : Option Addr) (T : List (List Nat)) : Prop := ∀ i L, T[i]? = some L → ∃ b off a c, ad = some ⟨b, off, none⟩ ∧ b < w.heap.size ∧ w.cell? ⟨b, off + i, none⟩ = some (.slice a L.length c) ∧ RdU w a L ∧ L.length < 9223372036854775808
theorem RdT.below {w w' : World} {ad : Option Addr} {T : List (List Nat)} (h : RdT w ad T) (b : Below w.heap.size w w') : RdT w' ad T := fun i L hx => by
  obtain ⟨g, off, a, c, h1, h2, h3, h4, h5⟩ := h i L hx
  exact ⟨g, off, a, c, h1, Nat.lt_of_lt_of_le h2 b.size, (b.cell (p := ⟨g, off + i, none⟩) h2).trans h3, h4.below b, h5⟩
def whoF (cl self : Int) : Int := if cl < 0 then self else cl
/-- What an argument is. -/
def valF (of cl : Int) (raw : Nat) (self : Int) (T : List (List Nat)) : Nat :=
  if of < 0 then raw else if whoF cl self < 0 then 0 else (T.getD (whoF cl self).toNat []).getD of.toNat 0

theorem arg_cells {w : World} {B : Nat} {of cl : Int} {raw : Nat} (hq : w.heap[B]? = some (.cells #[.int .i64 of, .int .i64 cl, .int .u64 (raw : Nat)] 24 (0, 0))) : w.cell? ⟨B, 0, none⟩ = some (.int .i64 of) ∧ w.cell? ⟨B, 1, none⟩ = some (.int .i64 cl) ∧ w.cell? ⟨B, 2, none⟩ = some (.int .u64 (raw : Nat)) := by simp [World.cell?, hq]
theorem drewN_below {B : Nat} {w w' : World} (h : Below B w w') (m : Nat) : Below B w (w'.drewN m) := ⟨h.os, h.tape, h.output, h.size, h.block⟩

set_option maxRecDepth 100000 in
set_option maxHeartbeats 4000000 in
theorem value_any {w : World} {ad : Option Addr} {T : List (List Nat)} {len : Nat} (cap : Nat) (hl : len = T.length) (hT : RdT w ad T) (hb : len < 9223372036854775808) (of cl : Int) (raw : Nat) (self : Int) :
    Calls Try.prog 9 #[.agg #[.int .i64 of, .int .i64 cl, .int .u64 (raw : Nat)], .int .i64 self, .slice ad len cap] w fun r w' => r = .returned (.int .u64 (valF of cl raw self T : Nat)) ∧ Below w.heap.size w w' := by
  obtain ⟨fz, hfz⟩ : ∃ fz, valF of cl raw self T = fz := ⟨_, rfl⟩
  rw [hfz]
  have hq := new_obj w (.cells #[.int .i64 of, .int .i64 cl, .int .u64 (raw : Nat)] 24)
  have bel := alloc_below w (.cells #[.int .i64 of, .int .i64 cl, .int .u64 (raw : Nat)] 24)
  have HT := hid1 (hT.below bel)
  clear hT
  replace hl := hid1 hl
  go_enter Try.func9, Try.ntmps9
  go_upto_region 1 with fail
  generalize World.alloc _ _ = w1 at *
  generalize hbc : w.heap.size = bc at hq ⊢
  replace hbc := hid1 hbc
  obtain ⟨y0, y1, y2⟩ := arg_cells hq
  by_cases h0 : of < 0
  · have e : valF of cl raw self T = raw := by unfold valF; rw [if_pos h0]
    rw [e] at hfz
    replace hfz := hid1 hfz
    go_wp2
    go_ret
    exact ⟨by rw [← hfz.out]; rfl, bel⟩
  have e1 : valF of cl raw self T = if whoF cl self < 0 then 0 else (T.getD (whoF cl self).toNat []).getD of.toNat 0 := by unfold valF; rw [if_neg h0]
  rw [e1] at hfz
  clear e1
  have hw : (cl < 0 ∧ whoF cl self = self) ∨ (¬ cl < 0 ∧ whoF cl self = cl) := by
    unfold whoF
    by_cases hc : cl < 0
    · exact .inl ⟨hc, if_pos hc⟩
    · exact .inr ⟨hc, if_neg hc⟩
  have key : ∀ who : Int, whoF cl self = who → (cl < 0 ∧ who = self) ∨ (¬ cl < 0 ∧ who = cl) → True := fun _ _ _ => trivial
  clear key
  generalize whoF cl self = who at *
  by_cases hn : who < 0
  · have hn1 : decide (who < 0) = true := decide_eq_true hn
    rw [if_pos hn] at hfz
    replace hfz := hid1 hfz
    rcases hw with ⟨hc, rfl⟩ | ⟨hc, rfl⟩
    · go_upto_region 6 with fail
      go_quiet (fail)
      go_wp2
      go_ret
      exact ⟨by rw [← hfz.out]; rfl, drewN_below bel _⟩
    · exact absurd hn hc
  rw [if_neg hn] at hfz
  have hn0 : (0 : Int) ≤ who := by omega
  have hof : (0 : Int) ≤ of := by omega
  have hn1 : decide (who < 0) = false := decide_eq_false hn
  by_cases hk : (len : Int) ≤ who
  · have hk1 : decide ((len : Int) ≤ who) = true := decide_eq_true hk
    have e : (T.getD who.toNat []).getD of.toNat 0 = 0 := by
      rw [List.getD_eq_getElem?_getD (l := T), List.getElem?_eq_none (by have := hl.out; omega)]
      rfl
    rw [e] at hfz
    replace hfz := hid1 hfz
    rcases hw with ⟨hc, rfl⟩ | ⟨hc, rfl⟩
    · go_upto_region 6 with fail
      go_quiet (fail)
      go_wp2
      go_ret
      exact ⟨by rw [← hfz.out]; rfl, drewN_below bel _⟩
    · go_upto_region 6 with fail
      go_quiet (fail)
      go_wp2
      go_ret
      exact ⟨by rw [← hfz.out]; rfl, drewN_below bel _⟩
  have hk1 : decide ((len : Int) ≤ who) = false := decide_eq_false hk
  have hk2 : who < (len : Int) := by omega
  obtain ⟨L, hL⟩ : ∃ L, T[who.toNat]? = some L := ⟨_, List.getElem?_eq_getElem (by have := hl.out; omega)⟩
  have eL : T.getD who.toNat [] = L := by rw [List.getD_eq_getElem?_getD, hL]; rfl
  rw [eL] at hfz
  obtain ⟨b, off, a, c, rfl, hlt, z0, hR, hLb⟩ := HT.out _ L hL
  obtain ⟨ln, hln⟩ : ∃ ln, L.length = ln := ⟨_, rfl⟩
  rw [hln] at z0
  replace hln := hid1 hln
  clear eL hL hlt
  by_cases hi : (ln : Int) ≤ of
  · have hi1 : decide ((ln : Int) ≤ of) = true := decide_eq_true hi
    have e : L.getD of.toNat 0 = 0 := by
      rw [List.getD_eq_getElem?_getD, List.getElem?_eq_none (by have := hln.out; omega)]
      rfl
    rw [e] at hfz
    replace hfz := hid1 hfz
    clear hR hln
    rcases hw with ⟨hc, rfl⟩ | ⟨hc, rfl⟩
    · go_upto_region 6 with fail
      go_quiet (fail)
      go_wp2
      go_ret
      exact ⟨by rw [← hfz.out]; rfl, drewN_below bel _⟩
    · go_upto_region 6 with fail
      go_quiet (fail)
      go_wp2
      go_ret
      exact ⟨by rw [← hfz.out]; rfl, drewN_below bel _⟩
  have hi1 : decide ((ln : Int) ≤ of) = false := decide_eq_false hi
  have hi2 : of < (ln : Int) := by omega
  obtain ⟨x, hx⟩ : ∃ x, L[of.toNat]? = some x := ⟨_, List.getElem?_eq_getElem (by have := hln.out; omega)⟩
  have ex : L.getD of.toNat 0 = x := by rw [List.getD_eq_getElem?_getD, hx]; rfl
  rw [ex] at hfz
  replace hfz := hid1 hfz
  obtain ⟨b2, off2, rfl, hlt2, z1⟩ := hR _ x hx
  clear ex hx hlt2 hR hln
  rcases hw with ⟨hc, rfl⟩ | ⟨hc, rfl⟩
  · go_upto_region 6 with fail
    go_quiet (fail)
    go_upto_region 8 with fail
    go_quiet (fail)
    go_wp2
    go_ret
    exact ⟨by rw [← hfz.out]; rfl, drewN_below bel _⟩
  · go_upto_region 6 with fail
    go_quiet (fail)
    go_upto_region 8 with fail
    go_quiet (fail)
    go_wp2
    go_ret
    exact ⟨by rw [← hfz.out]; rfl, drewN_below bel _⟩
end Go.Proofs.Ytfllkacebhcbdaa
