/- One who lays alone: no world in sight. -/
import Derived.Test.YtnegdabcjnhpdaaDoorGK
import Derived.Test.YtnegdabcjnhpdaaDoorGF
import Derived.Test.YtnegdabcjnhpdaaDoorGH
import Derived.Test.YtnegdabcjnhpdaaDoorGM
import Derived.Deep.RegionHeld3
import Derived.ProofKit
import Derived.Deep.Slices
import Derived.Deep.AppendLies
namespace Go.Proofs.YtnegdabcjnhpdaaDoor
open Go.RowKit

theorem getD_setX (X : List Nat) (i j v : Nat) : (X.set i v).getD j 0 = if j = i ∧ i < X.length then v else X.getD j 0 := by
  simp only [List.getD_eq_getElem?_getD, List.getElem?_set]
  by_cases h : i = j
  · subst h
    by_cases h2 : i < X.length
    · simp [h2]
    · simp [h2]
  · simp [h, Ne.symm h]
theorem getD_set_eq {X : List Nat} {i v : Nat} (h : i < X.length) : (X.set i v).getD i 0 = v := by rw [getD_setX, if_pos ⟨rfl, h⟩]
theorem getD_set_ne' {X : List Nat} {i j v : Nat} (h : j ≠ i) : (X.set i v).getD j 0 = X.getD j 0 := by rw [getD_setX, if_neg (fun x => h x.1)]
theorem nm_word {r : Nat} (h : r < 40) : nm KC (r + 1) = (r : Int) := by
  unfold nm
  rw [if_pos (by show r + 1 ≤ 40; omega)]
  omega
theorem nm_zero : nm KC 0 = -1 := by decide

/-- What field f has: its newest record, that is stamped, if there is one; and the records that come are new. -/
structure Al (g : Gs) (f n : Nat) (last : Int) : Prop where
  len : g.X.length = 208
  clock : g.X.getD 0 0 = 1
  top : g.X.getD (KC.bd 0 f) 0 = 0 ∧ last = -1 ∨ ∃ r, 5 ≤ r ∧ r < n ∧ g.X.getD (KC.bd 0 f) 0 = r + 1 ∧ g.X.getD (KC.bd r 1) 0 ≠ 0 ∧ nm KC (g.X.getD (KC.bd r 0) 0) = last
  new : ∀ s, n ≤ s → s < 40 → g.X.getD (KC.bd s 1) 0 = 0
theorem al0 (f : Nat) (hf : f < 3) : Al g0 f 5 (-1) := by
  have h1 : (begX 40).getD 0 0 = 1 := by decide +kernel
  have h2 : ∀ s, s < 40 → (begX 40).getD (KC.bd s 1) 0 = 0 := by decide +kernel
  have h3 : ∀ i, i < 3 → (begX 40).getD (KC.bd 0 i) 0 = 0 := by decide +kernel
  exact ⟨begX_len 40, h1, .inl ⟨h3 f hf, rfl⟩, fun s _ hs => h2 s hs⟩
/-- A Lay under way, that nobody disturbs: so many steps are left at most. -/
structure Ly (l : La) (g : Gs) (f n : Nat) (last ex v : Int) : Prop where
  al : Al g f n last
  hf : f < 3
  hn : 5 ≤ n ∧ n < 40
  val : nm KC (g.X.getD (KC.bd n 0) 0) = v
  fresh : l.fresh = n
  field : l.n.field = KC.bd 0 f
  expect : l.expect = ex
  laid : l.laid = false
def Top (g : Gs) (f : Nat) (l : La) : Prop := l.n.word = g.X.getD (KC.bd 0 f) 0 ∧ l.n.rc = nm KC l.n.word
def Stg (l : La) (g : Gs) (f : Nat) (last ex : Int) : Nat → Prop := fun m =>
  (l.pc = 0 ∧ l.n.on = false ∧ 12 ≤ m) ∨
  (l.pc = 0 ∧ l.n.on = true ∧ Top g f l ∧ 0 ≤ l.n.rc ∧ l.n.s.pc = 0 ∧ l.n.s.place = KC.bd l.n.rc.toNat 1 ∧ 11 ≤ m) ∨
  (l.pc = 1 ∧ Top g f l ∧ 0 ≤ l.n.rc ∧ -1 ≤ ex ∧ 10 ≤ m) ∨
  (l.pc = 2 ∧ Top g f l ∧ (ex < -1 ∨ ex = last) ∧ 9 ≤ m) ∨
  (l.pc = 3 ∧ Top g f l ∧ (ex < -1 ∨ ex = last) ∧ ∃ s, l.sh = some s ∧ s.hd = KC.hd l.n.rc.toNat ∧ 0 ≤ l.n.rc ∧ (s.pc = 0 ∧ 8 ≤ m ∨ s.pc = 1 ∧ 7 ≤ m ∧ s.was = g.X.getD s.hd 0 ∨ s.pc = 2 ∧ 6 ≤ m ∧ s.was = g.X.getD s.hd 0)) ∨
  (l.pc = 4 ∧ Top g f l ∧ (ex < -1 ∨ ex = last) ∧ 5 ≤ m)
/-- Its record is in the field: it is stamped. -/
structure Sty (l : La) (g : Gs) (f n : Nat) (ex last v : Int) (m : Nat) : Prop where
  len : g.X.length = 208
  clock : g.X.getD 0 0 = 1
  hf : f < 3
  hn : 5 ≤ n ∧ n < 40
  pc : l.pc = 5
  top : g.X.getD (KC.bd 0 f) 0 = n + 1
  st : g.X.getD (KC.bd n 1) 0 = 0
  val : nm KC (g.X.getD (KC.bd n 0) 0) = v
  new : ∀ s, n + 1 ≤ s → s < 40 → g.X.getD (KC.bd s 1) 0 = 0
  place : l.n.s.place = KC.bd n 1
  ok : ex < -1 ∨ ex = last
  s : l.n.s.pc = 0 ∧ 4 ≤ m ∨ l.n.s.pc = 1 ∧ 3 ≤ m ∨ l.n.s.pc = 2 ∧ 2 ≤ m ∧ l.n.s.clock = 1
/-- What it comes to. -/
def LyEnd (l : La) (g : Gs) (f n : Nat) (last ex v : Int) : Prop :=
  (l.laid = false ∧ ¬ (ex < -1 ∨ ex = last) ∧ Al g f (n + 1) last) ∨ (l.laid = true ∧ (ex < -1 ∨ ex = last) ∧ Al g f (n + 1) v)
theorem Al.touch {g : Gs} {f n : Nat} {last : Int} (h : Al g f n last) (T : Int) : Al { g with T := T } f n last := ⟨h.len, h.clock, h.top, h.new⟩
theorem Al.mono {g : Gs} {f n : Nat} {last : Int} (h : Al g f n last) : Al g f (n + 1) last := ⟨h.len, h.clock, by
  rcases h.top with x | ⟨r, a, b, c⟩
  · exact .inl x
  · exact .inr ⟨r, a, by omega, c⟩, fun s hs h2 => h.new s (by omega) h2⟩
/-- A word is stored that the field doesn't hang on. -/
theorem Al.store {g : Gs} {f n : Nat} {last : Int} (h : Al g f n last) (hn : 5 ≤ n) {p w : Nat} (T : Int) (h0 : p ≠ 0) (h1 : p ≠ KC.bd 0 f) (h2 : ∀ s, 5 ≤ s → p ≠ KC.bd s 1) (h3 : ∀ s, 5 ≤ s → s < n → p ≠ KC.bd s 0) : Al { g with X := g.X.set p w, T := T } f n last := by
  refine ⟨by show (g.X.set p w).length = _; rw [List.length_set]; exact h.len, by show (g.X.set p w).getD 0 0 = _; rw [getD_set_ne' (Ne.symm h0)]; exact h.clock, ?_, fun s hs h4 => ?_⟩
  · show (g.X.set p w).getD (KC.bd 0 f) 0 = 0 ∧ last = -1 ∨ ∃ r, 5 ≤ r ∧ r < n ∧ (g.X.set p w).getD (KC.bd 0 f) 0 = r + 1 ∧ (g.X.set p w).getD (KC.bd r 1) 0 ≠ 0 ∧ nm KC ((g.X.set p w).getD (KC.bd r 0) 0) = last
    rw [getD_set_ne' (Ne.symm h1)]
    rcases h.top with x | ⟨r, a, b, c, d, e⟩
    · exact .inl x
    · exact .inr ⟨r, a, b, c, by rw [getD_set_ne' (Ne.symm (h2 r a))]; exact d, by rw [getD_set_ne' (Ne.symm (h3 r a b))]; exact e⟩
  · show (g.X.set p w).getD (KC.bd s 1) 0 = 0
    rw [getD_set_ne' (Ne.symm (h2 s (by omega)))]; exact h.new s hs h4

theorem Top.rec {g : Gs} {f n : Nat} {last : Int} {l : La} (h : Al g f n last) (t : Top g f l) : (l.n.rc = -1 ∧ last = -1 ∧ l.n.word = 0) ∨ ∃ r : Nat, l.n.rc = (r : Int) ∧ 5 ≤ r ∧ r < n ∧ l.n.word = r + 1 ∧ g.X.getD (KC.bd r 1) 0 ≠ 0 ∧ nm KC (g.X.getD (KC.bd r 0) 0) = last ∧ r < 40 ∨ 40 ≤ n := by
  obtain ⟨t1, t2⟩ := t
  rcases h.top with ⟨a, b⟩ | ⟨r, a, b, c, d, e⟩
  · left
    rw [t1, a] at t2
    exact ⟨by rw [t2]; exact nm_zero, b, by rw [t1, a]⟩
  · right
    by_cases hn : n < 40
    · exact ⟨r, .inl ⟨by rw [t2, t1, c]; exact nm_word (by omega), a, b, by rw [t1, c], d, e, by omega⟩⟩
    · exact ⟨r, .inr (by omega)⟩
theorem Top.rc0 {g : Gs} {f n : Nat} {last : Int} {l : La} (h : Al g f n last) (hn : n < 40) (t : Top g f l) (h0 : 0 ≤ l.n.rc) : ∃ r : Nat, l.n.rc = (r : Int) ∧ 5 ≤ r ∧ r < n ∧ l.n.word = r + 1 ∧ g.X.getD (KC.bd r 1) 0 ≠ 0 ∧ nm KC (g.X.getD (KC.bd r 0) 0) = last := by
  rcases t.rec h with ⟨a, _⟩ | ⟨r, ⟨a, b, c, d, e, k, _⟩ | q⟩
  · omega
  · exact ⟨r, a, b, c, d, e, k⟩
  · omega
def Next (x : La × Gs) (f n : Nat) (last ex v : Int) (m : Nat) : Prop :=
  (x.1.pc = 6 ∧ LyEnd x.1 x.2 f n last ex v) ∨ (x.1.pc ≠ 6 ∧ 1 ≤ m ∧ ((Ly x.1 x.2 f n last ex v ∧ Stg x.1 x.2 f last ex (m - 1)) ∨ Sty x.1 x.2 f n ex last v (m - 1)))
theorem La.found_next {l : La} {g : Gs} {f n : Nat} {last ex v : Int} {m : Nat} (h : Ly l g f n last ex v) (t : Top g f l) (hm : 11 ≤ m) : Next (l.found g, g) f n last ex v m := by
  have hex := h.expect
  unfold La.found Next
  by_cases c1 : l.expect < -1
  · rw [if_pos c1]
    exact .inr ⟨by show (2 : Int) ≠ 6; omega, by omega, .inl ⟨⟨h.al, h.hf, h.hn, h.val, h.fresh, h.field, h.expect, h.laid⟩, .inr (.inr (.inr (.inl ⟨rfl, t, by omega, by omega⟩)))⟩⟩
  · rw [if_neg c1]
    by_cases c2 : l.n.rc = -1
    · rw [if_pos c2]
      have hl : last = -1 := by
        rcases t.rec h.al with ⟨_, a, _⟩ | ⟨r, ⟨a, _⟩ | q⟩
        · exact a
        · omega
        · have := h.hn; omega
      unfold La.comp
      by_cases c3 : (-1 : Int) = l.expect
      · rw [if_pos c3]
        exact .inr ⟨by show (2 : Int) ≠ 6; omega, by omega, .inl ⟨⟨h.al, h.hf, h.hn, h.val, h.fresh, h.field, h.expect, h.laid⟩, .inr (.inr (.inr (.inl ⟨rfl, t, by omega, by omega⟩)))⟩⟩
      · rw [if_neg c3]
        exact .inl ⟨rfl, .inl ⟨h.laid, by omega, h.al.mono⟩⟩
    · rw [if_neg c2]
      have h0 : 0 ≤ l.n.rc := by
        have := nm_le KC_ok l.n.word
        have := t.2
        omega
      exact .inr ⟨by show (1 : Int) ≠ 6; omega, by omega, .inl ⟨⟨h.al, h.hf, h.hn, h.val, h.fresh, h.field, h.expect, h.laid⟩, .inr (.inr (.inl ⟨rfl, t, h0, by omega, by omega⟩))⟩⟩
theorem Next.more {x : La × Gs} {f n : Nat} {last ex v : Int} {m m' : Nat} (h : Next x f n last ex v m) (hm : m ≤ m') : Next x f n last ex v m' := by
  rcases h with h | ⟨a, b, ⟨c, d⟩ | c⟩
  · exact .inl h
  · refine .inr ⟨a, by omega, .inl ⟨c, ?_⟩⟩
    rcases d with ⟨p, q, r⟩ | ⟨p, q, r, s, t, u, z⟩ | ⟨p, q, r, s, t⟩ | ⟨p, q, r, s⟩ | ⟨p, q, r, s, t1, t2, t3, t4⟩ | ⟨p, q, r, s⟩
    · exact .inl ⟨p, q, by omega⟩
    · exact .inr (.inl ⟨p, q, r, s, t, u, by omega⟩)
    · exact .inr (.inr (.inl ⟨p, q, r, s, by omega⟩))
    · exact .inr (.inr (.inr (.inl ⟨p, q, r, by omega⟩)))
    · refine .inr (.inr (.inr (.inr (.inl ⟨p, q, r, s, t1, t2, t3, ?_⟩))))
      rcases t4 with k | k | k
      · exact .inl ⟨k.1, by omega⟩
      · exact .inr (.inl ⟨k.1, by omega, k.2.2⟩)
      · exact .inr (.inr ⟨k.1, by omega, k.2.2⟩)
    · exact .inr (.inr (.inr (.inr (.inr ⟨p, q, r, by omega⟩))))
  · refine .inr ⟨a, by omega, .inr ⟨c.len, c.clock, c.hf, c.hn, c.pc, c.top, c.st, c.val, c.new, c.place, c.ok, ?_⟩⟩
    rcases c.s with k | k | k
    · exact .inl ⟨k.1, by omega⟩
    · exact .inr (.inl ⟨k.1, by omega⟩)
    · exact .inr (.inr ⟨k.1, by omega, k.2.2⟩)
theorem ly_step {l : La} {g : Gs} {f n : Nat} {last ex v : Int} {m : Nat} (h : Ly l g f n last ex v) (st : Stg l g f last ex m) (B Q : Nat) : Next (l.step KC B Q g) f n last ex v m := by
  have hn := h.hn
  have hf := h.hf
  rcases st with ⟨p, on, hm⟩ | ⟨p, on, t, r0, s0, sp, hm⟩ | ⟨p, t, r0, e1, hm⟩ | ⟨p, t, ok, hm⟩ | ⟨p, t, ok, s, hs, shd, r0, hsm⟩ | ⟨p, t, ok, hm⟩
  · -- the field is loaded
    have hst : l.step KC B Q g = (if (l.n.find KC B g).1.on = true then { l with n := (l.n.find KC B g).1 } else La.found { l with n := (l.n.find KC B g).1 } (l.n.find KC B g).2, (l.n.find KC B g).2) := by unfold La.step; rw [if_pos p]
    have hfi : l.n.find KC B g = ({ l.n with word := g.X.getD l.n.field 0, since := g.k.now, rc := nm KC (g.X.getD l.n.field 0), sb := if nm KC (g.X.getD l.n.field 0) = -1 then l.n.sb else some ⟨B, 0, none⟩, s := if nm KC (g.X.getD l.n.field 0) = -1 then l.n.s else ⟨nm KC (g.X.getD l.n.field 0), KC.bd (nm KC (g.X.getD l.n.field 0)).toNat 1, 0, 0, 0⟩, on := !decide (nm KC (g.X.getD l.n.field 0) = -1) }, { g with T := g.T + 1 }) := by
      unfold Nw.find
      rw [if_neg (by rw [on]; simp)]
    rw [hst, hfi]
    simp only
    have hfd := h.field
    by_cases c : nm KC (g.X.getD l.n.field 0) = -1
    · simp only [c, decide_true, Bool.not_true]
      rw [if_neg (by simp)]
      refine Next.more (La.found_next (n := n) (m := 11) ⟨h.al.touch _, hf, hn, h.val, h.fresh, hfd, h.expect, h.laid⟩ ⟨?_, ?_⟩ (by omega)) (by omega)
      · show g.X.getD l.n.field 0 = g.X.getD (KC.bd 0 f) 0
        rw [hfd]
      · exact c.symm
    · simp only [c, if_false]
      have h0 : 0 ≤ nm KC (g.X.getD l.n.field 0) := by have := nm_le KC_ok (g.X.getD l.n.field 0); omega
      refine .inr ⟨by show l.pc ≠ 6; omega, by omega, .inl ⟨⟨h.al.touch _, hf, hn, h.val, h.fresh, hfd, h.expect, h.laid⟩, .inr (.inl ⟨p, rfl, ⟨?_, rfl⟩, h0, rfl, rfl, by omega⟩)⟩⟩
      show g.X.getD l.n.field 0 = g.X.getD (KC.bd 0 f) 0
      rw [hfd]
  · -- the record's stamp is loaded
    obtain ⟨r, hr, h5, hrn, hw, hst, hv⟩ := Top.rc0 h.al hn.2 t r0
    have hpl : l.n.s.place = KC.bd r 1 := by rw [sp, hr]; rfl
    have hz : ¬ g.X.getD l.n.s.place 0 = 0 := by rw [hpl]; exact hst
    have hss : l.n.s.step g = ({ l.n.s with pc := 3 }, { g with T := g.T + 1 }) := by
      unfold Sm.step
      rw [if_pos s0, if_neg hz]
    have hst : l.step KC B Q g = (if (l.n.find KC B g).1.on = true then { l with n := (l.n.find KC B g).1 } else La.found { l with n := (l.n.find KC B g).1 } (l.n.find KC B g).2, (l.n.find KC B g).2) := by unfold La.step; rw [if_pos p]
    have hfi : l.n.find KC B g = ({ l.n with s := { l.n.s with pc := 3 }, on := false }, { g with T := g.T + 1 }) := by
      unfold Nw.find
      rw [if_pos on, hss]
      simp
    rw [hst, hfi]
    simp only
    rw [if_neg (by simp)]
    exact La.found_next (n := n) ⟨h.al.touch _, hf, hn, h.val, h.fresh, h.field, h.expect, h.laid⟩ t (by omega)
  · -- the value is compared
    obtain ⟨r, hr, h5, hrn, hw, hst, hv⟩ := Top.rc0 h.al hn.2 t r0
    have hst : l.step KC B Q g = (l.comp { g with T := g.T + 1 } (nm KC (g.X.getD (KC.bd l.n.rc.toNat 0) 0)), { g with T := g.T + 1 }) := by unfold La.step; rw [if_neg (by omega), if_pos p]
    rw [hst, hr, Int.toNat_natCast, hv]
    have hex := h.expect
    unfold La.comp
    by_cases c : last = l.expect
    · rw [if_pos c]
      exact .inr ⟨by show (2 : Int) ≠ 6; omega, by omega, .inl ⟨⟨h.al.touch _, hf, hn, h.val, h.fresh, h.field, h.expect, h.laid⟩, .inr (.inr (.inr (.inl ⟨rfl, t, by omega, by omega⟩)))⟩⟩
    · rw [if_neg c]
      exact .inl ⟨rfl, .inl ⟨h.laid, by omega, (h.al.touch _).mono⟩⟩
  · -- the older record is stored
    have hst : l.step KC B Q g = (if l.n.rc ≠ -1 ∧ Hh.fen l.e = true then { l with pc := 3, sh := some ⟨Q, false, KC.hd l.n.rc.toNat, 0, 0, 0⟩ } else { l with pc := 4 }, l.oldG KC g) := by unfold La.step; rw [if_neg (by omega), if_neg (by omega), if_pos p]
    rw [hst]
    have hal : Al (l.oldG KC g) f n last := h.al.store hn.1 _ (by rw [KC_bd]; omega) (by rw [KC_bd, KC_bd, h.fresh]; omega) (fun s _ => by rw [KC_bd, KC_bd]; omega) (fun s _ _ => by rw [KC_bd, KC_bd]; omega)
    have hval : nm KC ((l.oldG KC g).X.getD (KC.bd n 0) 0) = v := by
      show nm KC ((g.X.set (KC.bd l.fresh 2) _).getD (KC.bd n 0) 0) = v
      rw [getD_set_ne' (by rw [KC_bd, KC_bd]; omega)]; exact h.val
    have ht : ∀ l' : La, l'.n = l.n → Top (l.oldG KC g) f l' := fun l' e => by
      refine ⟨?_, by rw [e]; exact t.2⟩
      show _ = (g.X.set (KC.bd l.fresh 2) _).getD (KC.bd 0 f) 0
      rw [getD_set_ne' (by rw [KC_bd, KC_bd, h.fresh]; omega), e]; exact t.1
    by_cases c : l.n.rc ≠ -1 ∧ Hh.fen l.e = true
    · rw [if_pos c]
      have h0 : 0 ≤ l.n.rc := by have := nm_le KC_ok l.n.word; have := t.2; omega
      exact .inr ⟨by show (3 : Int) ≠ 6; omega, by omega, .inl ⟨⟨hal, hf, hn, hval, h.fresh, h.field, h.expect, h.laid⟩, .inr (.inr (.inr (.inr (.inl ⟨rfl, ht _ rfl, ok, _, rfl, rfl, h0, .inl ⟨rfl, by omega⟩⟩))))⟩⟩
    · rw [if_neg c]
      exact .inr ⟨by show (4 : Int) ≠ 6; omega, by omega, .inl ⟨⟨hal, hf, hn, hval, h.fresh, h.field, h.expect, h.laid⟩, .inr (.inr (.inr (.inr (.inr ⟨rfl, ht _ rfl, ok, by omega⟩))))⟩⟩
  · -- the older record is shaded
    obtain ⟨r, hr, h5, hrn, hw, _, _⟩ := Top.rc0 h.al hn.2 t r0
    have hhd : s.hd = 8 + r * 5 := by rw [shd, hr, Int.toNat_natCast, KC_hd]
    have hst : l.step KC B Q g = ({ l with sh := some (s.step l.e g).1, pc := if (s.step l.e g).1.pc = 4 then 4 else 3 }, (s.step l.e g).2) := by unfold La.step; rw [if_neg (by omega), if_neg (by omega), if_neg (by omega), if_pos p, hs]
    rw [hst]
    have keep : ∀ (p' w : Nat) (T : Int) (l' : La), (p' = 2 ∨ p' = s.hd) → l'.n = l.n → l'.fresh = l.fresh → l'.expect = l.expect → l'.laid = l.laid → Ly l' { g with X := g.X.set p' w, T := T } f n last ex v ∧ Top { g with X := g.X.set p' w, T := T } f l' := fun p' w T l' hp e1 e2 e3 e4 => by
      refine ⟨⟨h.al.store hn.1 T (by omega) (by rw [KC_bd]; omega) (fun s' _ => by rw [KC_bd]; omega) (fun s' _ _ => by rw [KC_bd]; omega), hf, hn, ?_, by rw [e2]; exact h.fresh, by rw [e1]; exact h.field, by rw [e3]; exact h.expect, by rw [e4]; exact h.laid⟩, ?_, by rw [e1]; exact t.2⟩
      · show nm KC ((g.X.set p' w).getD (KC.bd n 0) 0) = v
        rw [getD_set_ne' (by rw [KC_bd]; omega)]; exact h.val
      · show _ = (g.X.set p' w).getD (KC.bd 0 f) 0
        rw [getD_set_ne' (by rw [KC_bd]; omega), e1]; exact t.1
    have keep0 : ∀ (T : Int) (l' : La), l'.n = l.n → l'.fresh = l.fresh → l'.expect = l.expect → l'.laid = l.laid → Ly l' { g with T := T } f n last ex v ∧ Top { g with T := T } f l' := fun T l' e1 e2 e3 e4 =>
      ⟨⟨h.al.touch T, hf, hn, h.val, by rw [e2]; exact h.fresh, by rw [e1]; exact h.field, by rw [e3]; exact h.expect, by rw [e4]; exact h.laid⟩, by rw [e1]; exact t.1, by rw [e1]; exact t.2⟩
    rcases hsm with ⟨k, hm⟩ | ⟨k, hm, hwas⟩ | ⟨k, hm, hwas⟩
    · have hsd : s.step l.e g = if canS (g.X.getD s.hd 0) l.e = true then ({ s with pc := 1, was := g.X.getD s.hd 0, nw := shN (g.X.getD s.hd 0) l.e }, { g with T := g.T + 1 }) else ({ s with pc := 4, was := g.X.getD s.hd 0, nw := g.X.getD s.hd 0 }, { g with T := g.T + 1 }) := by unfold Sd.step; rw [if_pos k]
      rw [hsd]
      by_cases c : canS (g.X.getD s.hd 0) l.e = true
      · rw [if_pos c]
        obtain ⟨a, b⟩ := keep0 (g.T + 1) { l with sh := some { s with pc := 1, was := g.X.getD s.hd 0, nw := shN (g.X.getD s.hd 0) l.e }, pc := if (1 : Int) = 4 then 4 else 3 } rfl rfl rfl rfl
        exact .inr ⟨by show (if (1 : Int) = 4 then (4 : Int) else 3) ≠ 6; decide, by omega, .inl ⟨a, .inr (.inr (.inr (.inr (.inl ⟨rfl, b, ok, _, rfl, shd, r0, .inr (.inl ⟨rfl, by omega, rfl⟩)⟩))))⟩⟩
      · rw [if_neg c]
        obtain ⟨a, b⟩ := keep0 (g.T + 1) { l with sh := some { s with pc := 4, was := g.X.getD s.hd 0, nw := g.X.getD s.hd 0 }, pc := if (4 : Int) = 4 then 4 else 3 } rfl rfl rfl rfl
        exact .inr ⟨by show (if (4 : Int) = 4 then (4 : Int) else 3) ≠ 6; decide, by omega, .inl ⟨a, .inr (.inr (.inr (.inr (.inr ⟨rfl, b, ok, by omega⟩))))⟩⟩
    · have hsd : s.step l.e g = ({ s with pc := 2 }, { g with X := g.X.set 2 (Mm.sumW (g.X.getD 2 0) 1), T := g.T + 1 }) := by unfold Sd.step; rw [if_neg (by omega), if_pos k]
      rw [hsd]
      obtain ⟨a, b⟩ := keep 2 (Mm.sumW (g.X.getD 2 0) 1) (g.T + 1) { l with sh := some { s with pc := 2 }, pc := if (2 : Int) = 4 then 4 else 3 } (.inl rfl) rfl rfl rfl rfl
      refine .inr ⟨by show (if (2 : Int) = 4 then (4 : Int) else 3) ≠ 6; decide, by omega, .inl ⟨a, .inr (.inr (.inr (.inr (.inl ⟨rfl, b, ok, _, rfl, shd, r0, .inr (.inr ⟨rfl, by omega, ?_⟩)⟩))))⟩⟩
      show s.was = (g.X.set 2 _).getD s.hd 0
      rw [getD_set_ne' (by omega)]; exact hwas
    · have hsd : s.step l.e g = ({ s with gw := true, pc := 4 }, { g with X := g.X.set s.hd s.nw, T := g.T + 1 }) := by unfold Sd.step; rw [if_neg (by omega), if_neg (by omega), if_pos k, if_pos hwas.symm]
      rw [hsd]
      obtain ⟨a, b⟩ := keep s.hd s.nw (g.T + 1) { l with sh := some { s with gw := true, pc := 4 }, pc := if (4 : Int) = 4 then 4 else 3 } (.inr rfl) rfl rfl rfl rfl
      exact .inr ⟨by show (if (4 : Int) = 4 then (4 : Int) else 3) ≠ 6; decide, by omega, .inl ⟨a, .inr (.inr (.inr (.inr (.inr ⟨rfl, b, ok, by omega⟩))))⟩⟩
  · -- the field is swapped
    have hst : l.step KC B Q g = l.swap KC B g := by unfold La.step; rw [if_neg (by omega), if_neg (by omega), if_neg (by omega), if_neg (by omega), if_pos p]
    rw [hst]
    unfold La.swap
    rw [if_pos (by rw [h.field]; exact t.1.symm)]
    have hF : KC.bd 0 f < g.X.length := by rw [h.al.len, KC_bd]; omega
    refine .inr ⟨by show (5 : Int) ≠ 6; omega, by omega, .inr ⟨?_, ?_, hf, hn, rfl, ?_, ?_, ?_, fun s hs h4 => ?_, ?_, ok, .inl ⟨rfl, by omega⟩⟩⟩
    · show (g.X.set _ _).length = 208; rw [List.length_set]; exact h.al.len
    · show (g.X.set l.n.field _).getD 0 0 = 1; rw [h.field, getD_set_ne' (by rw [KC_bd]; omega)]; exact h.al.clock
    · show (g.X.set l.n.field (l.fresh + 1)).getD (KC.bd 0 f) 0 = n + 1; rw [h.field, getD_set_eq hF, h.fresh]
    · show (g.X.set l.n.field _).getD (KC.bd n 1) 0 = 0; rw [h.field, getD_set_ne' (by rw [KC_bd, KC_bd]; omega)]; exact h.al.new n (Nat.le_refl _) hn.2
    · show nm KC ((g.X.set l.n.field _).getD (KC.bd n 0) 0) = v; rw [h.field, getD_set_ne' (by rw [KC_bd, KC_bd]; omega)]; exact h.val
    · show (g.X.set l.n.field _).getD (KC.bd s 1) 0 = 0; rw [h.field, getD_set_ne' (by rw [KC_bd, KC_bd]; omega)]; exact h.al.new s (by omega) h4
    · show KC.bd l.fresh 1 = KC.bd n 1; rw [h.fresh]
theorem sty_step {l : La} {g : Gs} {f n : Nat} {ex last v : Int} {m : Nat} (h : Sty l g f n ex last v m) (B Q : Nat) : Next (l.step KC B Q g) f n last ex v m := by
  have hn := h.hn
  have hf := h.hf
  have hst : l.step KC B Q g = l.stamp g := by
    have := h.pc
    unfold La.step
    rw [if_neg (by omega), if_neg (by omega), if_neg (by omega), if_neg (by omega), if_neg (by omega), if_pos h.pc]
  rw [hst]
  unfold La.stamp
  have hz : g.X.getD l.n.s.place 0 = 0 := by rw [h.place]; exact h.st
  rcases h.s with ⟨k, hm⟩ | ⟨k, hm⟩ | ⟨k, hm, hc⟩
  · have hs : l.n.s.step g = ({ l.n.s with pc := 1 }, { g with T := g.T + 1 }) := by unfold Sm.step; rw [if_pos k, if_pos hz]
    rw [hs]
    simp only
    rw [if_neg (by omega)]
    exact .inr ⟨by show l.pc ≠ 6; have := h.pc; omega, by omega, .inr ⟨h.len, h.clock, hf, hn, h.pc, h.top, h.st, h.val, h.new, h.place, h.ok, .inr (.inl ⟨rfl, by omega⟩)⟩⟩
  · have hs : l.n.s.step g = ({ l.n.s with pc := 2, clock := g.X.getD 0 0, point := g.k.now }, { g with T := g.T + 1 }) := by unfold Sm.step; rw [if_neg (by omega), if_pos k]
    rw [hs]
    simp only
    rw [if_neg (by omega)]
    exact .inr ⟨by show l.pc ≠ 6; have := h.pc; omega, by omega, .inr ⟨h.len, h.clock, hf, hn, h.pc, h.top, h.st, h.val, h.new, h.place, h.ok, .inr (.inr ⟨rfl, by omega, h.clock⟩)⟩⟩
  · have hs : l.n.s.step g = ({ l.n.s with pc := 3 }, ⟨g.X.set l.n.s.place l.n.s.clock, g.T + 1, { g.k with born := upd g.k.born l.n.s.rc l.n.s.point }⟩) := by unfold Sm.step; rw [if_neg (by omega), if_neg (by omega), if_pos k, if_pos hz]
    rw [hs]
    simp only [if_true]
    have hF : KC.bd n 1 < g.X.length := by rw [h.len, KC_bd]; omega
    refine .inl ⟨rfl, .inr ⟨rfl, h.ok, ⟨?_, ?_, .inr ⟨n, hn.1, by omega, ?_, ?_, ?_⟩, fun s hs h4 => ?_⟩⟩⟩
    · show (g.X.set _ _).length = 208; rw [List.length_set]; exact h.len
    · show (g.X.set l.n.s.place _).getD 0 0 = 1; rw [h.place, getD_set_ne' (by rw [KC_bd]; omega)]; exact h.clock
    · show (g.X.set l.n.s.place _).getD (KC.bd 0 f) 0 = n + 1; rw [h.place, getD_set_ne' (by rw [KC_bd, KC_bd]; omega)]; exact h.top
    · show (g.X.set l.n.s.place l.n.s.clock).getD (KC.bd n 1) 0 ≠ 0; rw [h.place, getD_set_eq hF, hc]; omega
    · show nm KC ((g.X.set l.n.s.place _).getD (KC.bd n 0) 0) = v; rw [h.place, getD_set_ne' (by rw [KC_bd, KC_bd]; omega)]; exact h.val
    · show (g.X.set l.n.s.place _).getD (KC.bd s 1) 0 = 0; rw [h.place, getD_set_ne' (by rw [KC_bd, KC_bd]; omega)]; exact h.new s hs h4
end Go.Proofs.YtnegdabcjnhpdaaDoor
/- One who reads alone: no world in sight. -/
namespace Go.Proofs.YtnegdabcjnhpdaaDoor
open Go.RowKit

/-- A Read under way, that nobody disturbs. -/
def Ra (r : Rd) (g : Gs) (f : Nat) (m : Nat) : Prop := r.n.field = KC.bd 0 f ∧
  ((r.pc = 0 ∧ r.n.on = false ∧ 3 ≤ m) ∨
   (r.pc = 0 ∧ r.n.on = true ∧ r.n.rc = nm KC (g.X.getD (KC.bd 0 f) 0) ∧ 0 ≤ r.n.rc ∧ r.n.s.pc = 0 ∧ r.n.s.place = KC.bd r.n.rc.toNat 1 ∧ 2 ≤ m) ∨
   (r.pc = 1 ∧ r.n.rc = nm KC (g.X.getD (KC.bd 0 f) 0) ∧ 0 ≤ r.n.rc ∧ 1 ≤ m))
theorem Al.rc {g : Gs} {f n : Nat} {last : Int} (h : Al g f n last) (hn : n ≤ 40) : (nm KC (g.X.getD (KC.bd 0 f) 0) = -1 ∧ last = -1) ∨ ∃ r : Nat, nm KC (g.X.getD (KC.bd 0 f) 0) = (r : Int) ∧ g.X.getD (KC.bd r 1) 0 ≠ 0 ∧ nm KC (g.X.getD (KC.bd r 0) 0) = last := by
  rcases h.top with ⟨a, b⟩ | ⟨r, a, b, c, d, e⟩
  · rw [a]; exact .inl ⟨nm_zero, b⟩
  · exact .inr ⟨r, by rw [c]; exact nm_word (by omega), d, e⟩
theorem ra_step {r : Rd} {g : Gs} {f n : Nat} {last : Int} {m : Nat} (h : Al g f n last) (hn : n ≤ 40) (st : Ra r g f m) (B : Nat) :
    Al (r.step KC B g).2 f n last ∧ (((r.step KC B g).1.pc = 2 ∧ (r.step KC B g).1.val = last ∧ (nm KC (g.X.getD (KC.bd 0 f) 0) = -1 → (r.step KC B g).1.rc = -1)) ∨ ((r.step KC B g).1.pc ≠ 2 ∧ 2 ≤ m ∧ Ra (r.step KC B g).1 (r.step KC B g).2 f (m - 1))) := by
  obtain ⟨hfd, st⟩ := st
  rcases st with ⟨p, on, hm⟩ | ⟨p, on, t, r0, s0, sp, hm⟩ | ⟨p, t, r0, hm⟩
  · have hfi : r.n.find KC B g = ({ r.n with word := g.X.getD r.n.field 0, since := g.k.now, rc := nm KC (g.X.getD r.n.field 0), sb := if nm KC (g.X.getD r.n.field 0) = -1 then r.n.sb else some ⟨B, 0, none⟩, s := if nm KC (g.X.getD r.n.field 0) = -1 then r.n.s else ⟨nm KC (g.X.getD r.n.field 0), KC.bd (nm KC (g.X.getD r.n.field 0)).toNat 1, 0, 0, 0⟩, on := !decide (nm KC (g.X.getD r.n.field 0) = -1) }, { g with T := g.T + 1 }) := by
      unfold Nw.find
      rw [if_neg (by rw [on]; simp)]
    unfold Rd.step
    rw [if_pos p, hfi]
    simp only
    by_cases c : nm KC (g.X.getD r.n.field 0) = -1
    · simp only [c, decide_true, Bool.not_true]
      rw [if_neg (by simp), if_pos trivial]
      refine ⟨h.touch _, .inl ⟨rfl, ?_, fun _ => rfl⟩⟩
      rw [hfd] at c
      rcases h.rc hn with ⟨_, b⟩ | ⟨r', b, _⟩
      · exact b.symm
      · omega
    · simp only [c, if_false]
      have h0 : 0 ≤ nm KC (g.X.getD r.n.field 0) := by have := nm_le KC_ok (g.X.getD r.n.field 0); omega
      refine ⟨h.touch _, .inr ⟨by show r.pc ≠ 2; omega, by omega, hfd, .inr (.inl ⟨p, rfl, ?_, h0, rfl, rfl, by omega⟩)⟩⟩
      show nm KC (g.X.getD r.n.field 0) = nm KC (g.X.getD (KC.bd 0 f) 0)
      rw [hfd]
  · rcases h.rc hn with ⟨a, b⟩ | ⟨q, a, b, c⟩
    · omega
    · have hz : ¬ g.X.getD r.n.s.place 0 = 0 := by rw [sp, t, a]; exact b
      have hss : r.n.s.step g = ({ r.n.s with pc := 3 }, { g with T := g.T + 1 }) := by
        unfold Sm.step
        rw [if_pos s0, if_neg hz]
      have hfi : r.n.find KC B g = ({ r.n with s := { r.n.s with pc := 3 }, on := false }, { g with T := g.T + 1 }) := by
        unfold Nw.find
        rw [if_pos on, hss]
        simp
      unfold Rd.step
      rw [if_pos p, hfi]
      simp only
      rw [if_neg (by simp), if_neg (by omega)]
      exact ⟨h.touch _, .inr ⟨by show (1 : Int) ≠ 2; omega, by omega, hfd, .inr (.inr ⟨rfl, t, r0, by omega⟩)⟩⟩
  · rcases h.rc hn with ⟨a, b⟩ | ⟨q, a, b, c⟩
    · omega
    · unfold Rd.step
      rw [if_neg (by omega), if_pos p]
      refine ⟨h.touch _, .inl ⟨rfl, ?_, fun x => by omega⟩⟩
      show nm KC (g.X.getD (KC.bd r.n.rc.toNat 0) 0) = last
      rw [t, a]; exact c
end Go.Proofs.YtnegdabcjnhpdaaDoor
/- A law's world with one machine at a time: contracts of its steps. -/
namespace Go.Proofs.YtnegdabcjnhpdaaDoor
open Go.RowKit
open Mm (IsMem MS touched Only)
open Hh (WT)

structure Lw (w wr : World) (lo Wb M G B : Nat) (g : Gs) : Prop where
  gw : GW wr lo M G B KC.N g
  wb : wr.heap[Wb]? = some (.cells (wlC M B 5 (.slice none 0 0) false) 47 (0, 0))
  bel : Below w.heap.size w wr
  ne : Wb ≠ M ∧ Wb ≠ G ∧ Wb ≠ B
  hlo : w.heap.size ≤ lo ∧ lo ≤ Wb
section
variable {w wr w' : World} {lo Wb M G B : Nat} {g : Gs}
theorem Lw.below (h : Lw w wr lo Wb M G B g) (b : Below wr.heap.size wr w') : Lw w w' lo Wb M G B g := ⟨h.gw.below b, (b.block Wb (lt_of_block h.wb)).trans h.wb, seq_below h.bel b, h.ne, h.hlo⟩
theorem Lw.drew (h : Lw w wr lo Wb M G B g) : Lw w wr.drew lo Wb M G B g := h.below (Below.refl _ _).drew
theorem Lw.cellW (h : Lw w wr lo Wb M G B g) {i : Nat} {v : Value} (hi : (wlC M B 5 (.slice none 0 0) false)[i]? = some v) : wr.cell? ⟨Wb, i, none⟩ = some v := Blk.cell (t := 47) h.wb hi
theorem Lw.freeW (h : Lw w wr lo Wb M G B g) (i : Nat) : wr.frozen? ⟨Wb, i, none⟩ = false := Blk.free (t := 47) h.wb i
theorem Lw.cm {g' : Gs} {L : List Nat} (h : Lw w wr lo Wb M G B g) (hg : GW w' lo M G B KC.N g') (c : Cm lo L wr w') (hL : ∀ i ∈ L, lo ≤ i ∧ i ≠ Wb) : Lw w w' lo Wb M G B g' :=
  ⟨hg, c.at h.wb (fun hm => (hL Wb hm).2 rfl), c.below h.bel (fun i hi => by have := (hL i hi).1; have := h.hlo; omega) h.hlo.1 (Nat.le_refl _), h.ne, h.hlo⟩
theorem Lw.only {g' : Gs} (h : Lw w wr lo Wb M G B g) (hg : GW w' lo M G B KC.N g') (o : Only M G wr w') : Lw w w' lo Wb M G B g' :=
  h.cm (L := [M, G]) hg (Cm.of_chg (Chg.of_only o (by simp) (by simp))) (fun i hi => by
    have := h.gw.lo1
    have := h.ne
    simp at hi
    rcases hi with rfl | rfl <;> omega)
/-- The memory's address is stored where it stands. -/
theorem Lw.setM (h : Lw w wr lo Wb M G B g) : Lw w (wr.setCell ⟨Wb, 6, none⟩ (.pointer (some ⟨M, 0, none⟩))) lo Wb M G B g :=
  ⟨h.gw.set h.wb h.ne h.hlo.2 _, Mm.heap_setCell_at h.wb _, h.bel.setCell (p := ⟨Wb, 6, none⟩) (by have := h.hlo; show w.heap.size ≤ Wb; omega) _, h.ne, h.hlo⟩
/-- A Read's block. -/
structure RdIn (wr : World) (lo Wb M G B P : Nat) (r : Rd) : Prop where
  b : ∃ c, wr.heap[P]? = some (.cells c 58 (0, 0)) ∧ RdAt c B KC r
  ok : r.Ok KC B
  ne : P ≠ M ∧ P ≠ G ∧ P ≠ B ∧ P ≠ Wb ∧ lo ≤ P
theorem RdIn.below {P : Nat} {r : Rd} (h : RdIn wr lo Wb M G B P r) (b : Below wr.heap.size wr w') : RdIn w' lo Wb M G B P r := by
  obtain ⟨c, h1, h2⟩ := h.b
  exact ⟨⟨c, (b.block P (lt_of_block h1)).trans h1, h2⟩, h.ok, h.ne⟩
theorem RdIn.cells {P : Nat} {r : Rd} (h : RdIn wr lo Wb M G B P r) : wr.cell? ⟨P, 0, none⟩ = some (.int .i64 r.rc) ∧ wr.cell? ⟨P, 1, none⟩ = some (.int .i64 r.val) := by
  obtain ⟨c, h1, h2⟩ := h.b
  exact ⟨Blk.cell (t := 58) h1 h2.rc, Blk.cell (t := 58) h1 h2.val⟩
theorem read_one {P : Nat} {r : Rd} (h : Lw w wr lo Wb M G B g) (hr : RdIn wr lo Wb M G B P r) (hT : g.T + 1 < 4611686018427387904) :
    Calls Tryd.prog 12 #[.pointer (some ⟨P, 0, none⟩), .pointer (some ⟨M, 0, none⟩)] wr fun e w' => e = .returned (.bool (decide ((r.step KC B g).1.pc = 2))) ∧ Lw w w' lo Wb M G B (r.step KC B g).2 ∧ RdIn w' lo Wb M G B P (r.step KC B g).1 := by
  obtain ⟨c, h1, h2⟩ := hr.b
  have hn := hr.ne
  have hl := h.gw.lo1
  have hw := h.ne
  exact (rd_any KC_ok (by decide) (InF.start h.gw h1 ⟨hn.1, hn.2.1, hn.2.2.1⟩ hn.2.2.2.2) h2 hr.ok hT).mono fun _ _ ⟨e1, c', i2, i3⟩ =>
    ⟨e1, h.cm i2.gw i2.cm (fun i hi => by simp at hi; rcases hi with rfl | rfl | rfl | rfl <;> omega), ⟨c', i2.blk, i3⟩, Rd.step_ok KC_ok (by decide) hr.ok (h.gw.mem.fits 0) h.gw.now, hn⟩
/-- A Lay's block. -/
structure LaIn (wr : World) (lo Wb M G B P : Nat) (l : La) : Prop where
  b : ∃ c, wr.heap[P]? = some (.cells c 65 (0, 0)) ∧ LaAt c B KC l
  ok : l.Ok KC B
  ne : P ≠ M ∧ P ≠ G ∧ P ≠ B ∧ P ≠ Wb ∧ lo ≤ P
  sh : l.Sh wr lo M G B P
theorem LaIn.below {P : Nat} {l : La} (h : LaIn wr lo Wb M G B P l) (b : Below wr.heap.size wr w') : LaIn w' lo Wb M G B P l := by
  obtain ⟨c, h1, h2⟩ := h.b
  refine ⟨⟨c, (b.block P (lt_of_block h1)).trans h1, h2⟩, h.ok, h.ne, fun s hs => ?_⟩
  obtain ⟨q1, q2⟩ := h.sh s hs
  exact ⟨IsShd.cm (lo := lo) (L := []) q1 (Cm.of_below b) (by simp), q2⟩
theorem LaIn.laid {P : Nat} {l : La} (h : LaIn wr lo Wb M G B P l) : wr.cell? ⟨P, 0, none⟩ = some (.bool l.laid) := by
  obtain ⟨c, h1, h2⟩ := h.b
  exact Blk.cell (t := 65) h1 h2.laid
theorem lay_one {P : Nat} {l : La} (h : Lw w wr lo Wb M G B g) (hl : LaIn wr lo Wb M G B P l) (hT : g.T + 1 < 4611686018427387904) :
    Calls Tryd.prog 17 #[.pointer (some ⟨P, 0, none⟩), .pointer (some ⟨M, 0, none⟩)] wr fun e w' => ∃ Q, e = .returned (.bool (decide ((l.step KC B Q g).1.pc = 6))) ∧ Lw w w' lo Wb M G B (l.step KC B Q g).2 ∧ LaIn w' lo Wb M G B P (l.step KC B Q g).1 := by
  obtain ⟨c, h1, h2⟩ := hl.b
  have hn := hl.ne
  have hlo := h.gw.lo1
  have hw := h.ne
  refine (la_any KC_ok (by decide) (InF.start h.gw h1 ⟨hn.1, hn.2.1, hn.2.2.1⟩ hn.2.2.2.2) h2 hl.ok hl.sh hT).mono fun _ _ ⟨Q, e1, e2, e3⟩ => ⟨Q, e1, h.cm e2.gw e2.cm (fun i hi => ?_), e2.blk, La.step_ok KC_ok (by decide) hl.ok Q (fun i => h.gw.mem.fits i) h.gw.now, hn, e2.sh⟩
  simp only [List.mem_cons] at hi
  rcases hi with rfl | rfl | rfl | rfl | hi
  · omega
  · omega
  · omega
  · omega
  · unfold La.qs at hi
    split at hi
    · rename_i s hs
      simp at hi
      subst hi
      obtain ⟨q1, _, _, _, _, q6⟩ := hl.sh s hs
      refine ⟨q6, fun e => ?_⟩
      have q1' : wr.heap[s.Q]? = _ := q1
      rw [e, h.wb] at q1'
      cases q1'
    · cases hi
/-- A Lay that is just made. -/
theorem la_new {P : Nat} {cc : Array Value} {f r ep : Nat} {ex : Int} (hP : wr.heap[P]? = some (.cells cc 65 (0, 0))) (hl : LaAt cc B KC ⟨false, 0, nw0 (KC.bd 0 f), r, ex, ep, none, 0⟩) (hf : f < 3) (hr : r < 40) (he : ep < 18446744073709551616) (hn : P ≠ M ∧ P ≠ G ∧ P ≠ B ∧ P ≠ Wb ∧ lo ≤ P) : LaIn wr lo Wb M G B P ⟨false, 0, nw0 (KC.bd 0 f), r, ex, ep, none, 0⟩ :=
  ⟨⟨cc, hP, hl⟩, la0_ok (by rw [KC_bd, KC_N]; omega) hr he, hn, la0_sh _ _ _ _ _ _ _ _ _ _⟩
theorem rd_new {P : Nat} {cc : Array Value} {f : Nat} (hP : wr.heap[P]? = some (.cells cc 58 (0, 0))) (hl : RdAt cc B KC ⟨-1, -1, 0, nw0 (KC.bd 0 f), 0⟩) (hf : f < 3) (hn : P ≠ M ∧ P ≠ G ∧ P ≠ B ∧ P ≠ Wb ∧ lo ≤ P) : RdIn wr lo Wb M G B P ⟨-1, -1, 0, nw0 (KC.bd 0 f), 0⟩ :=
  ⟨⟨cc, hP, hl⟩, rd0_ok (by rw [KC_bd, KC_N]; omega), hn⟩
theorem Lw.new_ne {P : Nat} (h : Lw w wr lo Wb M G B g) (hP : wr.heap.size ≤ P) : P ≠ M ∧ P ≠ G ∧ P ≠ B ∧ P ≠ Wb ∧ lo ≤ P := by
  have hM := h.gw.mem.lt
  have hB : B < wr.heap.size := by obtain ⟨_, _, x⟩ := h.gw.book; exact x.lt
  have hW := lt_of_block h.wb
  have hl := h.gw.lo1
  omega
end
end Go.Proofs.YtnegdabcjnhpdaaDoor
/- One machine alone, step by step: whether its work is done is known ahead. -/
namespace Go.Proofs.YtnegdabcjnhpdaaDoor
open Go.RowKit
open Mm (IsMem MS touched Only)
open Hh (WT)
section
variable {w wr : World} {lo Wb M G B : Nat} {g : Gs}
/-- A Lay that is under way, with so many steps left at most. -/
def LyOn (l : La) (g : Gs) (f n : Nat) (last ex v : Int) (m : Nat) : Prop := (Ly l g f n last ex v ∧ Stg l g f last ex m) ∨ Sty l g f n ex last v m
theorem lay_go {P : Nat} {l : La} {f n m : Nat} {last ex v : Int} (h : Lw w wr lo Wb M G B g) (hl : LaIn wr lo Wb M G B P l) (hT : g.T + 1 < 4611686018427387904) (st : LyOn l g f n last ex v m) :
    ∃ bd : Bool, (bd = false → 1 ≤ m) ∧ Calls Tryd.prog 17 #[.pointer (some ⟨P, 0, none⟩), .pointer (some ⟨M, 0, none⟩)] wr fun e w' => e = .returned (.bool bd) ∧ ∃ l' g', Lw w w' lo Wb M G B g' ∧ LaIn w' lo Wb M G B P l' ∧ (g.T ≤ g'.T ∧ g'.T ≤ g.T + 1) ∧ (bd = true → LyEnd l' g' f n last ex v) ∧ (bd = false → LyOn l' g' f n last ex v (m - 1)) := by
  have nx : ∀ Q, Next (l.step KC B Q g) f n last ex v m := fun Q => by
    rcases st with ⟨a, b⟩ | a
    · exact ly_step a b B Q
    · exact sty_step a B Q
  refine ⟨decide ((l.step KC B 0 g).1.pc = 6), fun hb => ?_, (lay_one h hl hT).mono fun e w' ⟨Q, e1, e2, e3⟩ => ⟨?_, _, _, e2, e3, l.step_T KC B Q g, fun hb => ?_, fun hb => ?_⟩⟩
  · have hb' : (l.step KC B 0 g).1.pc ≠ 6 := by simpa using hb
    rcases nx 0 with ⟨a, _⟩ | ⟨_, a, _⟩
    · exact absurd a hb'
    · exact a
  · rw [e1, (l.step_Q0 KC B Q g).1]
  · have hb' : (l.step KC B Q g).1.pc = 6 := by rw [(l.step_Q0 KC B Q g).1]; simpa using hb
    rcases nx Q with ⟨_, a⟩ | ⟨a, _⟩
    · exact a
    · exact absurd hb' a
  · have hb' : (l.step KC B Q g).1.pc ≠ 6 := by rw [(l.step_Q0 KC B Q g).1]; simpa using hb
    rcases nx Q with ⟨a, _⟩ | ⟨_, _, a⟩
    · exact absurd a hb'
    · exact a
theorem read_go {P : Nat} {r : Rd} {f n m : Nat} {last : Int} (h : Lw w wr lo Wb M G B g) (hr : RdIn wr lo Wb M G B P r) (hT : g.T + 1 < 4611686018427387904) (al : Al g f n last) (hn : n ≤ 40) (st : Ra r g f m) :
    ∃ bd : Bool, (bd = false → 2 ≤ m) ∧ Calls Tryd.prog 12 #[.pointer (some ⟨P, 0, none⟩), .pointer (some ⟨M, 0, none⟩)] wr fun e w' => e = .returned (.bool bd) ∧ ∃ r' g', Lw w w' lo Wb M G B g' ∧ RdIn w' lo Wb M G B P r' ∧ (g.T ≤ g'.T ∧ g'.T ≤ g.T + 1) ∧ Al g' f n last ∧ (bd = true → r'.val = last) ∧ (bd = false → Ra r' g' f (m - 1)) := by
  obtain ⟨a1, nx⟩ := ra_step al hn st B
  refine ⟨decide ((r.step KC B g).1.pc = 2), fun hb => ?_, (read_one h hr hT).mono fun e w' ⟨e1, e2, e3⟩ => ⟨e1, _, _, e2, e3, r.step_T KC B g, a1, fun hb => ?_, fun hb => ?_⟩⟩
  · have hb' : (r.step KC B g).1.pc ≠ 2 := by simpa using hb
    rcases nx with ⟨a, _⟩ | ⟨_, a, _⟩
    · exact absurd a hb'
    · exact a
  · have hb' : (r.step KC B g).1.pc = 2 := by simpa using hb
    rcases nx with ⟨_, a, _⟩ | ⟨a, _⟩
    · exact a
    · exact absurd hb' a
  · have hb' : (r.step KC B g).1.pc ≠ 2 := by simpa using hb
    rcases nx with ⟨a, _⟩ | ⟨_, _, a⟩
    · exact absurd a hb'
    · exact a
end
end Go.Proofs.YtnegdabcjnhpdaaDoor
/- The law of one alone: the walk. -/
namespace Go.Proofs.YtnegdabcjnhpdaaDoor
open Go.RowKit
open Mm (IsMem MS touched Only)
open Hh (WT)

/-- Bytes in a slice that is only read. -/
def RdY (w : World) (ad : Option Addr) (n : Nat) (Z : Nat → Int) : Prop := ∀ i, i < n → ∃ b off, ad = some ⟨b, off, none⟩ ∧ b < w.heap.size ∧ w.cell? ⟨b, off + i, none⟩ = some (.int .u8 (Z i))
theorem Lw.cf {w wr : World} {lo Wb M G B : Nat} {g : Gs} (x : Lw w wr lo Wb M G B g) : (wr.cell? ⟨Wb, 0, none⟩ = some (.int .i64 40) ∧ wr.cell? ⟨Wb, 1, none⟩ = some (.int .i64 3) ∧ wr.cell? ⟨Wb, 2, none⟩ = some (.int .i64 1) ∧ wr.cell? ⟨Wb, 3, none⟩ = some (.int .i64 1) ∧ wr.cell? ⟨Wb, 4, none⟩ = some (.int .i64 9) ∧ wr.cell? ⟨Wb, 5, none⟩ = some (.int .i64 0)) ∧ wr.cell? ⟨Wb, 7, none⟩ = some (.pointer (some ⟨B, 0, none⟩)) :=
  ⟨⟨x.cellW rfl, x.cellW rfl, x.cellW rfl, x.cellW rfl, x.cellW rfl, x.cellW rfl⟩, x.cellW rfl⟩
theorem Lw.ofBegun {w w1 w2 : World} {Wb M G B : Nat} (b : Below w.heap.size w w1) (h : Begun w1 w2 Wb M G B) : Lw w w2 w1.heap.size Wb M G B g0 :=
  ⟨by rw [KC_N]; exact h.gw, h.blk, seq_below b h.bel, h.ne, b.size, h.lo⟩
theorem u8_ep {z : Int} {ep : Nat} (hz : 0 ≤ z ∧ z ≤ 255) (h : (ep : Int) = z / 16) : IntKind.u64.wrap (IntKind.u8.wrap (z.tdiv 16)) = (ep : Int) := by
  rw [Int.tdiv_eq_ediv_of_nonneg hz.1, ← h, IntKind.wrap_u8, IntKind.wrap_u64]
  omega
theorem rd_empty {g : Gs} {f B : Nat} (h : nm KC (g.X.getD (KC.bd 0 f) 0) = -1) : ((⟨-1, -1, 0, nw0 (KC.bd 0 f), 0⟩ : Rd).step KC B g).1.pc = 2 := by
  unfold Rd.step Nw.find nw0
  simp only
  generalize g.X.getD (KC.bd 0 f) 0 = W at *
  simp [h, Rd.ended]
set_option maxRecDepth 100000 in
set_option maxHeartbeats 16000000 in
theorem alone_law (ad : Option Addr) (len cap : Nat) (Z : Nat → Int) (which : Int) (hwh : 0 ≤ which ∧ which ≤ 255) {w : World} (hZ : RdY w ad len Z) (hB : ∀ j, j < len → 0 ≤ Z j ∧ Z j ≤ 255) (hw : WT w) :
    Calls Tryd.prog 4 #[.slice ad len cap, .int .u8 which] w fun e w' => e = .returned (.bool true) ∧ Below w.heap.size w w' := by
  have cA := fun (wr : World) (h : Below w.heap.size w wr) => awake_any (hw.below h)
  have b0 := Below.refl w.heap.size w
  by_cases hl : 30 < len
  · have hlI : (30 : Int) < (len : Int) := by omega
    go_enter Tryd.func4, Tryd.ntmps4
    go_wp2_with (go_at_call 7; refine (cA _ b0).mono ?_; rintro e w1 ⟨rfl, b1⟩)
    go_ret
    exact ⟨rfl, b1⟩
  · have hlI : ¬ (30 : Int) < (len : Int) := by omega
    obtain ⟨f, hf, hf3⟩ : ∃ f : Nat, (f : Int) = which % 3 ∧ f < 3 := ⟨(which % 3).toNat, by omega, by omega⟩
    obtain ⟨fz, hfz⟩ : ∃ fz, which % 3 = fz := ⟨_, rfl⟩
    rw [hfz] at hf
    have cR := fun B w => mkRead (f := f) hf3 hf B w
    have c8 := fun (wr : World) (h : Below w.heap.size w wr) => begin_any (hw.below h)
    go_enter Tryd.func4, Tryd.ntmps4
    go_upto_region 6 with (first
      | (go_at_call 7; refine (cA _ b0).mono ?_; rintro e w1 ⟨rfl, b1⟩)
      | (go_at_call 8; refine (c8 _ b1).mono ?_; rintro e w2 ⟨Wb, M, G, B, rfl, bg⟩))
    have lw := Lw.ofBegun b1 bg
    have hal := al0 f hf3
    have hT0 : g0.T = 0 := rfl
    clear bg c8
    generalize w1.heap.size = lo at *
    clear b1 b0
    go_upto_region 7 with fail
    replace hf : Hid ((f : Int) = fz) := hf
    have hcf : ∀ wr g, Lw w wr lo Wb M G B g → (wr.cell? ⟨Wb, 0, none⟩ = some (.int .i64 40) ∧ wr.cell? ⟨Wb, 1, none⟩ = some (.int .i64 3) ∧ wr.cell? ⟨Wb, 2, none⟩ = some (.int .i64 1) ∧ wr.cell? ⟨Wb, 3, none⟩ = some (.int .i64 1) ∧ wr.cell? ⟨Wb, 4, none⟩ = some (.int .i64 9) ∧ wr.cell? ⟨Wb, 5, none⟩ = some (.int .i64 0)) ∧ wr.cell? ⟨Wb, 7, none⟩ = some (.pointer (some ⟨B, 0, none⟩)) := fun wr g x => x.cf
    replace lw := lw.drew
    clear hfz
    go_region_held3 (fun wq => (wq.cell? ⟨Wb, 0, none⟩ = some (.int .i64 40) ∧ wq.cell? ⟨Wb, 1, none⟩ = some (.int .i64 3) ∧ wq.cell? ⟨Wb, 2, none⟩ = some (.int .i64 1) ∧ wq.cell? ⟨Wb, 3, none⟩ = some (.int .i64 1) ∧ wq.cell? ⟨Wb, 4, none⟩ = some (.int .i64 9) ∧ wq.cell? ⟨Wb, 5, none⟩ = some (.int .i64 0)) ∧ wq.cell? ⟨Wb, 7, none⟩ = some (.pointer (some ⟨B, 0, none⟩))) (with_reducible exact hcf _ _ lw)
      ((go_at_call 11; with_reducible refine (cR _ _).mono ?_; rintro e w3 ⟨P, cc, rfl, hP, hR, hPl, bb⟩; have hne := lw.new_ne hPl; replace lw := lw.below bb))
    have rd := rd_new (lo := lo) (Wb := Wb) (M := M) (G := G) hP hR hf3 hne
    clear hP hR hPl bb hne
    have ra := ra_step (m := 3) hal (by omega) (r := ⟨-1, -1, 0, nw0 (KC.bd 0 f), 0⟩) ⟨rfl, .inl ⟨rfl, rfl, Nat.le_refl _⟩⟩ B
    have hnm : nm KC (g0.X.getD (KC.bd 0 f) 0) = -1 := by
      rcases hal.rc (by omega) with ⟨a, _⟩ | ⟨r, a, _⟩
      · exact a
      · rcases hal.top with ⟨q, _⟩ | ⟨r', q1, q2, _⟩
        · rw [q]; exact nm_zero
        · omega
    have hpc := rd_empty (B := B) hnm
    obtain ⟨hal1, ⟨_, hval, hrc⟩ | ⟨q, _⟩⟩ := ra
    rotate_left
    · exact absurd hpc q
    replace hrc := hrc hnm
    have c12 := read_one lw rd (by rw [hT0]; omega)
    have hTs := Rd.step_T ⟨-1, -1, 0, nw0 (KC.bd 0 f), 0⟩ KC B g0
    generalize (⟨-1, -1, 0, nw0 (KC.bd 0 f), 0⟩ : Rd).step KC B g0 = rg at *
    obtain ⟨r', g'⟩ := rg
    simp only at c12 hal1 hval hrc hpc hTs
    rw [show decide (r'.pc = 2) = true by simp [hpc]] at c12
    have hT1 : 0 ≤ g'.T ∧ g'.T ≤ 1 := by rw [hT0] at hTs; omega
    clear hal hT0 hnm hTs rd hpc
    have x6 : w3.cell? ⟨Wb, 6, none⟩ = some (.pointer (some ⟨M, 0, none⟩)) := lw.cellW rfl
    go_upto_region 10 with (first
      | (go_at_call 12; with_reducible refine c12.mono ?_; rintro e w4 ⟨rfl, lw4, rd4⟩; have p0 := rd4.cells.1; have p1 := rd4.cells.2; rw [hrc] at p0; rw [hval] at p1)
      | (go_at_call 7; refine (cA _ lw4.bel).mono ?_; rintro e w5 ⟨rfl, b5⟩))
    replace lw4 := lw4.below b5
    clear b5 p0 p1 rd4 c12 x6 lw hval hrc
    go_wp2
    go_loopw [8, 9] (fun la ii wr => ∃ (i : Nat) (last : Int) (g : Gs), i ≤ len ∧ ii = .int .i64 i ∧ la = .int .i64 last ∧ (-1 ≤ last ∧ last < 100) ∧ Al g f (5 + i) last ∧ (0 ≤ g.T ∧ g.T ≤ 1 + 40 * i) ∧ Lw w wr lo Wb M G B g) (fun _ ii _ => len - (intOf ii).toNat)
    case atStart => exact ⟨0, -1, g', Nat.zero_le _, rfl, rfl, by omega, hal1, by omega, lw4⟩
    case round =>
      clear lw4 hal1 hT1
      obtain ⟨i, last, g, hi, rfl, rfl, hlast, al, hT, lw⟩ := hrel
      by_cases hin : i < len
      · have hiI : (i : Int) < (len : Int) := by omega
        obtain ⟨b, off, rfl, hbl, q0⟩ := hZ i hin
        have hz := hB i hin
        have qz : ∀ wr g, Lw w wr lo Wb M G B g → wr.cell? ⟨b, off + i, none⟩ = some (.int .u8 (Z i)) := fun wr g x => (x.bel.cell (p := ⟨b, off + i, none⟩) hbl).trans q0
        have q1 := qz _ _ lw
        obtain ⟨v, hv⟩ : ∃ v, sl (Z i % 5 - 1) = v := ⟨_, rfl⟩
        have hvb : 0 ≤ v + 1 ∧ v + 1 < 10 := by rw [← hv]; unfold sl; split <;> omega
        have cV := slot_any (Z i % 5 - 1) (by omega)
        rw [hv] at cV
        replace hv : Hid (sl (Z i % 5 - 1) = v) := hv
        go_upto_region 15 with (go_at_call 13; with_reducible refine (cV _).mono ?_; rintro e w6 ⟨rfl, rfl⟩)
        have hn40 : 5 + i < 40 := by omega
        have cA2 : ∀ w, Calls Tryd.prog 15 #[.agg #[.int .i64 40, .int .i64 3, .int .i64 1, .int .i64 1, .int .i64 9, .int .i64 0], .string ⟨#[98, 111, 100, 121]⟩, .int .i64 (IntKind.i64.wrap (5 + (i : Int))), .int .i64 0] w fun e w' => e = .returned (.int .i64 (KC.bd (5 + i) 0 : Nat)) ∧ Below w.heap.size w w' := fun w => by
          rw [IntWalk.i64_in (5 + (i : Int)) (by omega), show (5 : Int) + (i : Int) = ((5 + i : Nat) : Int) by omega]
          exact at_body hn40 (i := 0) (by omega) w
        have hbN : KC.bd (5 + i) 0 < KC.N := by rw [KC_bd, KC_N]; omega
        obtain ⟨pl, hpl⟩ : ∃ pl, KC.bd (5 + i) 0 = pl := ⟨_, rfl⟩
        rw [hpl] at cA2 hbN
        replace hpl : Hid (KC.bd (5 + i) 0 = pl) := hpl
        have cL : ∀ wr, Lw w wr lo Wb M G B g → Calls Tryd.prog 14 #[.pointer (some ⟨M, 0, none⟩), .int .i64 (pl : Nat), .int .u64 (IntKind.u64.wrap (IntKind.i64.wrap (v + 1)))] wr fun e w' => e = .returned (.pointer (some ⟨M, 0, none⟩)) ∧ Lw w w' lo Wb M G B { g with X := g.X.set pl (v + 1).toNat, T := g.T + 1 } := fun wr x => by
          rw [IntWalk.i64_in (v + 1) (by omega), IntWalk.u64_in (v + 1) (by omega), show v + 1 = (((v + 1).toNat : Nat) : Int) by omega]
          exact (laid_any x.gw hbN (by omega) (by omega)).mono fun _ _ ⟨h1, h2, h3⟩ => ⟨h1, x.only h2 h3⟩
        have hcf6 : ∀ wr g, Lw w wr lo Wb M G B g → (wr.cell? ⟨Wb, 0, none⟩ = some (.int .i64 40) ∧ wr.cell? ⟨Wb, 1, none⟩ = some (.int .i64 3) ∧ wr.cell? ⟨Wb, 2, none⟩ = some (.int .i64 1) ∧ wr.cell? ⟨Wb, 3, none⟩ = some (.int .i64 1) ∧ wr.cell? ⟨Wb, 4, none⟩ = some (.int .i64 9) ∧ wr.cell? ⟨Wb, 5, none⟩ = some (.int .i64 0)) ∧ wr.cell? ⟨Wb, 6, none⟩ = some (.pointer (some ⟨M, 0, none⟩)) := fun wr g x => ⟨x.cf.1, x.cellW rfl⟩
        replace lw := lw.drew
        have fW6 := lw.freeW 6
        clear q1
        go_region_held3 (fun wq => (wq.cell? ⟨Wb, 0, none⟩ = some (.int .i64 40) ∧ wq.cell? ⟨Wb, 1, none⟩ = some (.int .i64 3) ∧ wq.cell? ⟨Wb, 2, none⟩ = some (.int .i64 1) ∧ wq.cell? ⟨Wb, 3, none⟩ = some (.int .i64 1) ∧ wq.cell? ⟨Wb, 4, none⟩ = some (.int .i64 9) ∧ wq.cell? ⟨Wb, 5, none⟩ = some (.int .i64 0)) ∧ wq.cell? ⟨Wb, 6, none⟩ = some (.pointer (some ⟨M, 0, none⟩))) (first | with_reducible exact hcf6 _ _ i3 | with_reducible exact hcf6 _ _ i2 | with_reducible exact hcf6 _ _ lw)
          (first
            | (go_at_call 15; with_reducible refine (cA2 _).mono ?_; rintro e w7 ⟨rfl, hbb⟩; replace lw := lw.below hbb; clear hbb)
            | (go_at_call 14; with_reducible refine (cL _ lw).mono ?_; rintro e w8 ⟨rfl, i2⟩; have i3 := i2.setM; have fW6 := i2.freeW 6))
        have hpo := hpl.out
        have hF : pl < g.X.length := by rw [al.len, ← hpo, KC_bd]; omega
        have al1 : Al { g with X := g.X.set pl (v + 1).toNat, T := g.T + 1 } f (5 + i) last := al.store (by omega) _ (by rw [← hpo, KC_bd]; omega) (by rw [← hpo, KC_bd, KC_bd]; omega) (fun s _ => by rw [← hpo, KC_bd, KC_bd]; omega) (fun s _ _ => by rw [← hpo, KC_bd, KC_bd]; omega)
        have hval : nm KC (({ g with X := g.X.set pl (v + 1).toNat, T := g.T + 1 } : Gs).X.getD (KC.bd (5 + i) 0) 0) = v := by
          show nm KC ((g.X.set pl (v + 1).toNat).getD (KC.bd (5 + i) 0) 0) = v
          rw [hpo, getD_set_eq hF]
          unfold nm
          rw [if_pos (by show (v + 1).toNat ≤ 40; omega)]
          omega
        have hT1 : 0 ≤ ({ g with X := g.X.set pl (v + 1).toNat, T := g.T + 1 } : Gs).T ∧ ({ g with X := g.X.set pl (v + 1).toNat, T := g.T + 1 } : Gs).T ≤ 2 + 40 * i := by show 0 ≤ g.T + 1 ∧ g.T + 1 ≤ 2 + 40 * i; omega
        clear cL cA2 cV lw i2 fW6 hF hpo al hbN
        generalize ({ g with X := g.X.set pl (v + 1).toNat, T := g.T + 1 } : Gs) = g1 at *
        clear hT hpl hcf6
        generalize w8.setCell ⟨Wb, 6, none⟩ (.pointer (some ⟨M, 0, none⟩)) = w9 at *
        have q1 := qz _ _ i3
        replace al1 : Hid _ := al1
        replace hval : Hid _ := hval
        by_cases hodd : Z i % 2 = 1
        · obtain ⟨ex, hex⟩ : ∃ ex, sl (Z i / 8 % 5 - 1) = ex := ⟨_, rfl⟩
          have hexb : -1 ≤ ex ∧ ex < 10 := by rw [← hex]; unfold sl; split <;> omega
          have cE := slot_any (Z i / 8 % 5 - 1) (by omega)
          rw [hex] at cE
          clear hex
          go_upto_region 19 with (go_at_call 13; with_reducible refine (cE _).mono ?_; rintro e w6 ⟨rfl, rfl⟩)
          have hcf9 : ∀ wr g, Lw w wr lo Wb M G B g → ((wr.cell? ⟨Wb, 0, none⟩ = some (.int .i64 40) ∧ wr.cell? ⟨Wb, 1, none⟩ = some (.int .i64 3) ∧ wr.cell? ⟨Wb, 2, none⟩ = some (.int .i64 1) ∧ wr.cell? ⟨Wb, 3, none⟩ = some (.int .i64 1) ∧ wr.cell? ⟨Wb, 4, none⟩ = some (.int .i64 9) ∧ wr.cell? ⟨Wb, 5, none⟩ = some (.int .i64 0)) ∧ wr.cell? ⟨Wb, 7, none⟩ = some (.pointer (some ⟨B, 0, none⟩))) ∧ wr.cell? ⟨b, off + i, none⟩ = some (.int .u8 (Z i)) := fun wr g x => ⟨x.cf, qz _ _ x⟩
          obtain ⟨ep, hep, hepl⟩ : ∃ ep : Nat, (ep : Int) = Z i / 16 ∧ ep < 100 := ⟨(Z i / 16).toNat, by omega, by omega⟩
          have cY : ∀ B w, Calls Tryd.prog 16 #[.agg #[.int .i64 40, .int .i64 3, .int .i64 1, .int .i64 1, .int .i64 9, .int .i64 0], .int .i64 0, .int .i64 fz, .int .i64 (IntKind.i64.wrap (5 + (i : Int))), .int .i64 ex, .int .u64 (IntKind.u64.wrap (IntKind.u8.wrap ((Z i).tdiv 16))), .pointer (some ⟨B, 0, none⟩)] w fun e w' => ∃ P c, e = .returned (.pointer (some ⟨P, 0, none⟩)) ∧ w'.heap[P]? = some (.cells c 65 (0, 0)) ∧ LaAt c B KC ⟨false, 0, nw0 (KC.bd 0 f), 5 + i, ex, ep, none, 0⟩ ∧ w.heap.size ≤ P ∧ Below w.heap.size w w' := fun B w => by
            rw [u8_ep hz hep, IntWalk.i64_in (5 + (i : Int)) (by omega), show (5 : Int) + (i : Int) = ((5 + i : Nat) : Int) by omega]
            exact mkLay hf3 (by omega) hf.out rfl B w
          have lw := i3.drew
          clear q1 i3
          go_region_held3 (fun wq => ((wq.cell? ⟨Wb, 0, none⟩ = some (.int .i64 40) ∧ wq.cell? ⟨Wb, 1, none⟩ = some (.int .i64 3) ∧ wq.cell? ⟨Wb, 2, none⟩ = some (.int .i64 1) ∧ wq.cell? ⟨Wb, 3, none⟩ = some (.int .i64 1) ∧ wq.cell? ⟨Wb, 4, none⟩ = some (.int .i64 9) ∧ wq.cell? ⟨Wb, 5, none⟩ = some (.int .i64 0)) ∧ wq.cell? ⟨Wb, 7, none⟩ = some (.pointer (some ⟨B, 0, none⟩))) ∧ wq.cell? ⟨b, off + i, none⟩ = some (.int .u8 (Z i))) (with_reducible exact hcf9 _ _ lw)
            ((go_at_call 16; with_reducible refine (cY _ _).mono ?_; rintro e w10 ⟨P2, cc, rfl, hP, hLa, hPl, bb⟩; have hne := lw.new_ne hPl; replace lw := lw.below bb))
          have la := la_new (lo := lo) (Wb := Wb) (M := M) (G := G) hP hLa hf3 (by omega) (by omega) hne
          have ly : LyOn (⟨false, 0, nw0 (KC.bd 0 f), 5 + i, ex, ep, none, 0⟩ : La) g1 f (5 + i) last ex v 12 := .inl ⟨⟨al1.out, hf3, by omega, hval.out, rfl, rfl, rfl, rfl⟩, .inl ⟨rfl, rfl, Nat.le_refl _⟩⟩
          generalize (⟨false, 0, nw0 (KC.bd 0 f), 5 + i, ex, ep, none, 0⟩ : La) = l0 at la ly
          clear hP hLa hPl bb hne cY hcf9 hep hepl al1 hval
          go_wp2
          go_loopw [13] (fun nn wr => ∃ (k : Nat) (l : La) (g : Gs), k ≤ 12 ∧ nn = .int .i64 k ∧ (0 ≤ g.T ∧ g.T ≤ 2 + 40 * i + k) ∧ Lw w wr lo Wb M G B g ∧ LaIn wr lo Wb M G B P2 l ∧ LyOn l g f (5 + i) last ex v (12 - k)) (fun nn _ => 13 - (intOf nn).toNat)
          case atStart => exact ⟨0, l0, g1, by omega, rfl, by omega, lw, la, ly⟩
          case round =>
            clear lw la ly hT1
            obtain ⟨k, l, g2, hk, rfl, hT2, lw, la, ly⟩ := hrel
            have hkI : (k : Int) < 30 := by omega
            have x6 : wr.cell? ⟨Wb, 6, none⟩ = some (.pointer (some ⟨M, 0, none⟩)) := lw.cellW rfl
            obtain ⟨bd, hm, c17⟩ := lay_go lw la (by omega) ly
            cases bd
            · have hk1 := hm rfl
              go_wp2_with (go_at_call 17; with_reducible refine c17.mono ?_; rintro e w11 ⟨rfl, l', g', lw', la', hT', _, ly'⟩)
              go_roundw
              case rel => exact ⟨k + 1, l', g', by omega, by go_num, by omega, lw', la', by rw [show 12 - (k + 1) = 12 - k - 1 by omega]; first | exact ly' rfl | exact ly' trivial⟩
              case measure => simp [intOf]; omega
            · go_upto_region 23 with (go_at_call 17; with_reducible refine c17.mono ?_; rintro e w11 ⟨rfl, l', g', lw', la', hT', le, _⟩)
              have le' : LyEnd l' g' f (5 + i) last ex v := by first | exact le rfl | exact le trivial
              clear le
              have hkn : ¬ (k : Int) = 30 := by omega
              have hkb : ((k : Int) == 30) = false := by simpa using hkn
              have p0 := la'.laid
              rcases le' with ⟨z1, z2, alE⟩ | ⟨z1, z2, alE⟩
              · have hxI : ¬ ex < -1 := by omega
                have hxl : (ex == last) = false := by simp; omega
                rw [z1] at p0
                clear z1 z2
                replace alE : Hid _ := alE
                go_upto_region 28 with fail
                have lw := lw'.drew
                have hcf7 : ∀ wr g, Lw w wr lo Wb M G B g → (wr.cell? ⟨Wb, 0, none⟩ = some (.int .i64 40) ∧ wr.cell? ⟨Wb, 1, none⟩ = some (.int .i64 3) ∧ wr.cell? ⟨Wb, 2, none⟩ = some (.int .i64 1) ∧ wr.cell? ⟨Wb, 3, none⟩ = some (.int .i64 1) ∧ wr.cell? ⟨Wb, 4, none⟩ = some (.int .i64 9) ∧ wr.cell? ⟨Wb, 5, none⟩ = some (.int .i64 0)) ∧ wr.cell? ⟨Wb, 7, none⟩ = some (.pointer (some ⟨B, 0, none⟩)) := fun wr g x => x.cf
                go_region_held3 (fun wq => (wq.cell? ⟨Wb, 0, none⟩ = some (.int .i64 40) ∧ wq.cell? ⟨Wb, 1, none⟩ = some (.int .i64 3) ∧ wq.cell? ⟨Wb, 2, none⟩ = some (.int .i64 1) ∧ wq.cell? ⟨Wb, 3, none⟩ = some (.int .i64 1) ∧ wq.cell? ⟨Wb, 4, none⟩ = some (.int .i64 9) ∧ wq.cell? ⟨Wb, 5, none⟩ = some (.int .i64 0)) ∧ wq.cell? ⟨Wb, 7, none⟩ = some (.pointer (some ⟨B, 0, none⟩))) (with_reducible exact hcf7 _ _ lw)
                  ((go_at_call 11; with_reducible refine (cR _ _).mono ?_; rintro e w12 ⟨P3, cc, rfl, hP, hRd, hPl, bb⟩; have hne := lw.new_ne hPl; replace lw := lw.below bb))
                have rd := rd_new (lo := lo) (Wb := Wb) (M := M) (G := G) hP hRd hf3 hne
                have ra : Ra (⟨-1, -1, 0, nw0 (KC.bd 0 f), 0⟩ : Rd) g' f 3 := ⟨rfl, .inl ⟨rfl, rfl, Nat.le_refl _⟩⟩
                generalize (⟨-1, -1, 0, nw0 (KC.bd 0 f), 0⟩ : Rd) = r0 at rd ra
                clear hP hRd hPl bb hne lw' la'
                go_wp2
                go_loopw [16] (fun nn wr => ∃ (k2 : Nat) (r : Rd) (g : Gs), k2 ≤ 3 ∧ nn = .int .i64 k2 ∧ (0 ≤ g.T ∧ g.T ≤ 20 + 40 * i + k2) ∧ Lw w wr lo Wb M G B g ∧ RdIn wr lo Wb M G B P3 r ∧ Al g f (5 + i + 1) last ∧ Ra r g f (3 - k2)) (fun nn _ => 4 - (intOf nn).toNat)
                case atStart => exact ⟨0, r0, g', by omega, rfl, by omega, lw, rd, alE.out, ra⟩
                case round =>
                  clear lw rd ra alE
                  obtain ⟨k2, r, g3, hk2, rfl, hT3, lw, rd, al3, ra⟩ := hrel
                  have hk2I : (k2 : Int) < 5 := by omega
                  have x6 : wr.cell? ⟨Wb, 6, none⟩ = some (.pointer (some ⟨M, 0, none⟩)) := lw.cellW rfl
                  obtain ⟨bd, hm, c12⟩ := read_go lw rd (by omega) al3 (by omega) ra
                  cases bd
                  · have hk3 := hm rfl
                    go_wp2_with (go_at_call 12; with_reducible refine c12.mono ?_; rintro e w13 ⟨rfl, r', g4, lw4, rd4, hT4, al4, _, ra4⟩)
                    go_roundw
                    case rel => exact ⟨k2 + 1, r', g4, by omega, by go_num, by omega, lw4, rd4, al4, by rw [show 3 - (k2 + 1) = 3 - k2 - 1 by omega]; first | exact ra4 rfl | exact ra4 trivial⟩
                    case measure => simp [intOf]; omega
                  · go_upto_region 32 with (go_at_call 12; with_reducible refine c12.mono ?_; rintro e w13 ⟨rfl, r', g4, lw4, rd4, hT4, al4, hv4, _⟩)
                    have hv5 : r'.val = last := by first | exact hv4 rfl | exact hv4 trivial
                    have p1 := rd4.cells.2
                    rw [hv5] at p1
                    clear hv4
                    go_wp2
                    go_roundw
                    case rel => exact ⟨i + 1, last, g4, by omega, by go_num, rfl, by omega, by rw [show 5 + (i + 1) = 5 + i + 1 by omega]; exact al4, by omega, lw4⟩
                    case measure => simp [intOf]; omega
              · have hxI : ¬ ex < -1 := by omega
                obtain rfl : ex = last := by omega
                rw [z1] at p0
                clear z1 z2
                replace alE : Hid _ := alE
                go_upto_region 28 with fail
                have lw := lw'.drew
                have hcf7 : ∀ wr g, Lw w wr lo Wb M G B g → (wr.cell? ⟨Wb, 0, none⟩ = some (.int .i64 40) ∧ wr.cell? ⟨Wb, 1, none⟩ = some (.int .i64 3) ∧ wr.cell? ⟨Wb, 2, none⟩ = some (.int .i64 1) ∧ wr.cell? ⟨Wb, 3, none⟩ = some (.int .i64 1) ∧ wr.cell? ⟨Wb, 4, none⟩ = some (.int .i64 9) ∧ wr.cell? ⟨Wb, 5, none⟩ = some (.int .i64 0)) ∧ wr.cell? ⟨Wb, 7, none⟩ = some (.pointer (some ⟨B, 0, none⟩)) := fun wr g x => x.cf
                go_region_held3 (fun wq => (wq.cell? ⟨Wb, 0, none⟩ = some (.int .i64 40) ∧ wq.cell? ⟨Wb, 1, none⟩ = some (.int .i64 3) ∧ wq.cell? ⟨Wb, 2, none⟩ = some (.int .i64 1) ∧ wq.cell? ⟨Wb, 3, none⟩ = some (.int .i64 1) ∧ wq.cell? ⟨Wb, 4, none⟩ = some (.int .i64 9) ∧ wq.cell? ⟨Wb, 5, none⟩ = some (.int .i64 0)) ∧ wq.cell? ⟨Wb, 7, none⟩ = some (.pointer (some ⟨B, 0, none⟩))) (with_reducible exact hcf7 _ _ lw)
                  ((go_at_call 11; with_reducible refine (cR _ _).mono ?_; rintro e w12 ⟨P3, cc, rfl, hP, hRd, hPl, bb⟩; have hne := lw.new_ne hPl; replace lw := lw.below bb))
                have rd := rd_new (lo := lo) (Wb := Wb) (M := M) (G := G) hP hRd hf3 hne
                have ra : Ra (⟨-1, -1, 0, nw0 (KC.bd 0 f), 0⟩ : Rd) g' f 3 := ⟨rfl, .inl ⟨rfl, rfl, Nat.le_refl _⟩⟩
                generalize (⟨-1, -1, 0, nw0 (KC.bd 0 f), 0⟩ : Rd) = r0 at rd ra
                clear hP hRd hPl bb hne lw' la'
                go_wp2
                go_loopw [16] (fun nn wr => ∃ (k2 : Nat) (r : Rd) (g : Gs), k2 ≤ 3 ∧ nn = .int .i64 k2 ∧ (0 ≤ g.T ∧ g.T ≤ 20 + 40 * i + k2) ∧ Lw w wr lo Wb M G B g ∧ RdIn wr lo Wb M G B P3 r ∧ Al g f (5 + i + 1) v ∧ Ra r g f (3 - k2)) (fun nn _ => 4 - (intOf nn).toNat)
                case atStart => exact ⟨0, r0, g', by omega, rfl, by omega, lw, rd, alE.out, ra⟩
                case round =>
                  clear lw rd ra alE
                  obtain ⟨k2, r, g3, hk2, rfl, hT3, lw, rd, al3, ra⟩ := hrel
                  have hk2I : (k2 : Int) < 5 := by omega
                  have x6 : wr.cell? ⟨Wb, 6, none⟩ = some (.pointer (some ⟨M, 0, none⟩)) := lw.cellW rfl
                  obtain ⟨bd, hm, c12⟩ := read_go lw rd (by omega) al3 (by omega) ra
                  cases bd
                  · have hk3 := hm rfl
                    go_wp2_with (go_at_call 12; with_reducible refine c12.mono ?_; rintro e w13 ⟨rfl, r', g4, lw4, rd4, hT4, al4, _, ra4⟩)
                    go_roundw
                    case rel => exact ⟨k2 + 1, r', g4, by omega, by go_num, by omega, lw4, rd4, al4, by rw [show 3 - (k2 + 1) = 3 - k2 - 1 by omega]; first | exact ra4 rfl | exact ra4 trivial⟩
                    case measure => simp [intOf]; omega
                  · go_upto_region 32 with (go_at_call 12; with_reducible refine c12.mono ?_; rintro e w13 ⟨rfl, r', g4, lw4, rd4, hT4, al4, hv4, _⟩)
                    have hv5 : r'.val = v := by first | exact hv4 rfl | exact hv4 trivial
                    have p1 := rd4.cells.2
                    rw [hv5] at p1
                    clear hv4
                    go_wp2
                    go_roundw
                    case rel => exact ⟨i + 1, v, g4, by omega, by go_num, rfl, by omega, by rw [show 5 + (i + 1) = 5 + i + 1 by omega]; exact al4, by omega, lw4⟩
                    case measure => simp [intOf]; omega
        · have hev : (Z i % 2 == 1) = false := by simpa using hodd
          go_upto_region 19 with fail
          have hcf9 : ∀ wr g, Lw w wr lo Wb M G B g → ((wr.cell? ⟨Wb, 0, none⟩ = some (.int .i64 40) ∧ wr.cell? ⟨Wb, 1, none⟩ = some (.int .i64 3) ∧ wr.cell? ⟨Wb, 2, none⟩ = some (.int .i64 1) ∧ wr.cell? ⟨Wb, 3, none⟩ = some (.int .i64 1) ∧ wr.cell? ⟨Wb, 4, none⟩ = some (.int .i64 9) ∧ wr.cell? ⟨Wb, 5, none⟩ = some (.int .i64 0)) ∧ wr.cell? ⟨Wb, 7, none⟩ = some (.pointer (some ⟨B, 0, none⟩))) ∧ wr.cell? ⟨b, off + i, none⟩ = some (.int .u8 (Z i)) := fun wr g x => ⟨x.cf, qz _ _ x⟩
          obtain ⟨ep, hep, hepl⟩ : ∃ ep : Nat, (ep : Int) = Z i / 16 ∧ ep < 100 := ⟨(Z i / 16).toNat, by omega, by omega⟩
          have cY : ∀ B w, Calls Tryd.prog 16 #[.agg #[.int .i64 40, .int .i64 3, .int .i64 1, .int .i64 1, .int .i64 9, .int .i64 0], .int .i64 0, .int .i64 fz, .int .i64 (IntKind.i64.wrap (5 + (i : Int))), .int .i64 (-2), .int .u64 (IntKind.u64.wrap (IntKind.u8.wrap ((Z i).tdiv 16))), .pointer (some ⟨B, 0, none⟩)] w fun e w' => ∃ P c, e = .returned (.pointer (some ⟨P, 0, none⟩)) ∧ w'.heap[P]? = some (.cells c 65 (0, 0)) ∧ LaAt c B KC ⟨false, 0, nw0 (KC.bd 0 f), 5 + i, (-2), ep, none, 0⟩ ∧ w.heap.size ≤ P ∧ Below w.heap.size w w' := fun B w => by
            rw [u8_ep hz hep, IntWalk.i64_in (5 + (i : Int)) (by omega), show (5 : Int) + (i : Int) = ((5 + i : Nat) : Int) by omega]
            exact mkLay hf3 (by omega) hf.out rfl B w
          have lw := i3.drew
          clear q1 i3
          go_region_held3 (fun wq => ((wq.cell? ⟨Wb, 0, none⟩ = some (.int .i64 40) ∧ wq.cell? ⟨Wb, 1, none⟩ = some (.int .i64 3) ∧ wq.cell? ⟨Wb, 2, none⟩ = some (.int .i64 1) ∧ wq.cell? ⟨Wb, 3, none⟩ = some (.int .i64 1) ∧ wq.cell? ⟨Wb, 4, none⟩ = some (.int .i64 9) ∧ wq.cell? ⟨Wb, 5, none⟩ = some (.int .i64 0)) ∧ wq.cell? ⟨Wb, 7, none⟩ = some (.pointer (some ⟨B, 0, none⟩))) ∧ wq.cell? ⟨b, off + i, none⟩ = some (.int .u8 (Z i))) (with_reducible exact hcf9 _ _ lw)
            ((go_at_call 16; with_reducible refine (cY _ _).mono ?_; rintro e w10 ⟨P2, cc, rfl, hP, hLa, hPl, bb⟩; have hne := lw.new_ne hPl; replace lw := lw.below bb))
          have la := la_new (lo := lo) (Wb := Wb) (M := M) (G := G) hP hLa hf3 (by omega) (by omega) hne
          have ly : LyOn (⟨false, 0, nw0 (KC.bd 0 f), 5 + i, (-2), ep, none, 0⟩ : La) g1 f (5 + i) last (-2) v 12 := .inl ⟨⟨al1.out, hf3, by omega, hval.out, rfl, rfl, rfl, rfl⟩, .inl ⟨rfl, rfl, Nat.le_refl _⟩⟩
          generalize (⟨false, 0, nw0 (KC.bd 0 f), 5 + i, (-2), ep, none, 0⟩ : La) = l0 at la ly
          clear hP hLa hPl bb hne cY hcf9 hep hepl al1 hval
          go_wp2
          go_loopw [13] (fun nn wr => ∃ (k : Nat) (l : La) (g : Gs), k ≤ 12 ∧ nn = .int .i64 k ∧ (0 ≤ g.T ∧ g.T ≤ 2 + 40 * i + k) ∧ Lw w wr lo Wb M G B g ∧ LaIn wr lo Wb M G B P2 l ∧ LyOn l g f (5 + i) last (-2) v (12 - k)) (fun nn _ => 13 - (intOf nn).toNat)
          case atStart => exact ⟨0, l0, g1, by omega, rfl, by omega, lw, la, ly⟩
          case round =>
            clear lw la ly hT1
            obtain ⟨k, l, g2, hk, rfl, hT2, lw, la, ly⟩ := hrel
            have hkI : (k : Int) < 30 := by omega
            have x6 : wr.cell? ⟨Wb, 6, none⟩ = some (.pointer (some ⟨M, 0, none⟩)) := lw.cellW rfl
            obtain ⟨bd, hm, c17⟩ := lay_go lw la (by omega) ly
            cases bd
            · have hk1 := hm rfl
              go_wp2_with (go_at_call 17; with_reducible refine c17.mono ?_; rintro e w11 ⟨rfl, l', g', lw', la', hT', _, ly'⟩)
              go_roundw
              case rel => exact ⟨k + 1, l', g', by omega, by go_num, by omega, lw', la', by rw [show 12 - (k + 1) = 12 - k - 1 by omega]; first | exact ly' rfl | exact ly' trivial⟩
              case measure => simp [intOf]; omega
            · go_upto_region 23 with (go_at_call 17; with_reducible refine c17.mono ?_; rintro e w11 ⟨rfl, l', g', lw', la', hT', le, _⟩)
              have le' : LyEnd l' g' f (5 + i) last (-2) v := by first | exact le rfl | exact le trivial
              clear le
              have hkn : ¬ (k : Int) = 30 := by omega
              have hkb : ((k : Int) == 30) = false := by simpa using hkn
              have p0 := la'.laid
              rcases le' with ⟨z1, z2, alE⟩ | ⟨z1, z2, alE⟩
              · exact absurd (.inl (by omega)) z2
              · rw [z1] at p0
                clear z1 z2
                replace alE : Hid _ := alE
                go_upto_region 28 with fail
                have lw := lw'.drew
                have hcf7 : ∀ wr g, Lw w wr lo Wb M G B g → (wr.cell? ⟨Wb, 0, none⟩ = some (.int .i64 40) ∧ wr.cell? ⟨Wb, 1, none⟩ = some (.int .i64 3) ∧ wr.cell? ⟨Wb, 2, none⟩ = some (.int .i64 1) ∧ wr.cell? ⟨Wb, 3, none⟩ = some (.int .i64 1) ∧ wr.cell? ⟨Wb, 4, none⟩ = some (.int .i64 9) ∧ wr.cell? ⟨Wb, 5, none⟩ = some (.int .i64 0)) ∧ wr.cell? ⟨Wb, 7, none⟩ = some (.pointer (some ⟨B, 0, none⟩)) := fun wr g x => x.cf
                go_region_held3 (fun wq => (wq.cell? ⟨Wb, 0, none⟩ = some (.int .i64 40) ∧ wq.cell? ⟨Wb, 1, none⟩ = some (.int .i64 3) ∧ wq.cell? ⟨Wb, 2, none⟩ = some (.int .i64 1) ∧ wq.cell? ⟨Wb, 3, none⟩ = some (.int .i64 1) ∧ wq.cell? ⟨Wb, 4, none⟩ = some (.int .i64 9) ∧ wq.cell? ⟨Wb, 5, none⟩ = some (.int .i64 0)) ∧ wq.cell? ⟨Wb, 7, none⟩ = some (.pointer (some ⟨B, 0, none⟩))) (with_reducible exact hcf7 _ _ lw)
                  ((go_at_call 11; with_reducible refine (cR _ _).mono ?_; rintro e w12 ⟨P3, cc, rfl, hP, hRd, hPl, bb⟩; have hne := lw.new_ne hPl; replace lw := lw.below bb))
                have rd := rd_new (lo := lo) (Wb := Wb) (M := M) (G := G) hP hRd hf3 hne
                have ra : Ra (⟨-1, -1, 0, nw0 (KC.bd 0 f), 0⟩ : Rd) g' f 3 := ⟨rfl, .inl ⟨rfl, rfl, Nat.le_refl _⟩⟩
                generalize (⟨-1, -1, 0, nw0 (KC.bd 0 f), 0⟩ : Rd) = r0 at rd ra
                clear hP hRd hPl bb hne lw' la'
                go_wp2
                go_loopw [16] (fun nn wr => ∃ (k2 : Nat) (r : Rd) (g : Gs), k2 ≤ 3 ∧ nn = .int .i64 k2 ∧ (0 ≤ g.T ∧ g.T ≤ 20 + 40 * i + k2) ∧ Lw w wr lo Wb M G B g ∧ RdIn wr lo Wb M G B P3 r ∧ Al g f (5 + i + 1) v ∧ Ra r g f (3 - k2)) (fun nn _ => 4 - (intOf nn).toNat)
                case atStart => exact ⟨0, r0, g', by omega, rfl, by omega, lw, rd, alE.out, ra⟩
                case round =>
                  clear lw rd ra alE
                  obtain ⟨k2, r, g3, hk2, rfl, hT3, lw, rd, al3, ra⟩ := hrel
                  have hk2I : (k2 : Int) < 5 := by omega
                  have x6 : wr.cell? ⟨Wb, 6, none⟩ = some (.pointer (some ⟨M, 0, none⟩)) := lw.cellW rfl
                  obtain ⟨bd, hm, c12⟩ := read_go lw rd (by omega) al3 (by omega) ra
                  cases bd
                  · have hk3 := hm rfl
                    go_wp2_with (go_at_call 12; with_reducible refine c12.mono ?_; rintro e w13 ⟨rfl, r', g4, lw4, rd4, hT4, al4, _, ra4⟩)
                    go_roundw
                    case rel => exact ⟨k2 + 1, r', g4, by omega, by go_num, by omega, lw4, rd4, al4, by rw [show 3 - (k2 + 1) = 3 - k2 - 1 by omega]; first | exact ra4 rfl | exact ra4 trivial⟩
                    case measure => simp [intOf]; omega
                  · go_upto_region 32 with (go_at_call 12; with_reducible refine c12.mono ?_; rintro e w13 ⟨rfl, r', g4, lw4, rd4, hT4, al4, hv4, _⟩)
                    have hv5 : r'.val = v := by first | exact hv4 rfl | exact hv4 trivial
                    have p1 := rd4.cells.2
                    rw [hv5] at p1
                    clear hv4
                    go_wp2
                    go_roundw
                    case rel => exact ⟨i + 1, v, g4, by omega, by go_num, rfl, by omega, by rw [show 5 + (i + 1) = 5 + i + 1 by omega]; exact al4, by omega, lw4⟩
                    case measure => simp [intOf]; omega
      · have hiI : ¬ (i : Int) < (len : Int) := by omega
        go_wp2
        go_ret
        exact ⟨rfl, lw.bel⟩
end Go.Proofs.YtnegdabcjnhpdaaDoor
/- Bytes that came in. -/
namespace Go.Proofs.YtnegdabcjnhpdaaDoor
open Go.ChangeShapes Go.WideShapes Go.ChangeAt Go.RowKit Go.Deep
theorem cellsY : Tryd.prog.cellsOf 5 = 1 := by kernel_rfl
open Hh (WT)
namespace Op
theorem choose_lt' {α : Type} {len : Nat} (h0 : 0 < len) {p : Nat → α → Prop} (h : ∀ i, i < len → ∃ z, p i z) : ∃ Z : Nat → α, ∀ i, i < len → p i (Z i) := by
  obtain ⟨z0, _⟩ := h 0 h0
  exact ⟨fun i => if hi : i < len then Classical.choose (h i hi) else z0, fun i hi => by simp only [hi, dite_true]; exact Classical.choose_spec (h i hi)⟩
theorem lt_of_cell {w : World} {b o : Nat} {v : Value} (h : w.cell? ⟨b, o, none⟩ = some v) : b < w.heap.size := by
  unfold World.cell? at h
  simp only at h
  cases hb : w.heap[b]? with
  | none => rw [hb] at h; cases h
  | some x => exact lt_of_block hb
theorem add_none (b o i : Nat) : (⟨b, o, none⟩ : Addr).add i = ⟨b, o + i, none⟩ := by simp [Addr.add]

theorem open_bytes {H : Type} {enc : TypeId × Value → H} {w : World} {ad : Option Addr} {len cap fuel : Nat} {x : DataW H × List MemPlace}
    (h : DataW.trod enc Tryd.prog w 0 (fun _ => true) true fuel 50 [.slice ad len cap] = some x) : ∃ Z : Nat → Int, RdY w ad len Z ∧ (∀ j, j < len → 0 ≤ Z j ∧ Z j ≤ 255) ∧ len ≤ maxLen := by
  rcases open_slice1 Tryd.underlying50 cellsY h with ⟨h0, _⟩ | ⟨a, len', cap', m, n, V, D, Pl, hcs, hb, hl, hm, hmm, hx, hV⟩
  · simp only [List.cons.injEq, Value.slice.injEq, and_true] at h0
    obtain ⟨rfl, rfl, rfl⟩ := h0
    exact ⟨fun _ => 0, fun i hi => by omega, fun i hi => by omega, Nat.zero_le _⟩
  · simp only [List.cons.injEq, Value.slice.injEq, and_true] at hcs
    obtain ⟨rfl, rfl, rfl⟩ := hcs
    simp only [if_true] at hmm
    subst hmm
    rcases Nat.eq_zero_or_pos len with h0 | h0
    · exact ⟨fun _ => 0, fun i hi => by omega, fun i hi => by omega, by omega⟩
    · obtain ⟨Z, hZ⟩ := choose_lt' h0 (p := fun i (z : Int) => V i = .int .u8 z ∧ 0 ≤ z ∧ z ≤ 255) fun i hi => by
        obtain ⟨z, e, -, hw⟩ := DataW.trod_int Tryd.underlying5 (hV i (by omega)).2
        simp only [List.cons.injEq, and_true] at e
        refine ⟨z, e, ?_⟩
        have q := hw
        simp only [Lit.wf, Bool.and_eq_true, decide_eq_true_eq] at q
        exact q
      obtain ⟨b, off, spot⟩ := a
      have hspot : spot = none := by simpa [Addr.add] using World.cell?_spot (hV 0 (by omega)).1
      subst hspot
      refine ⟨Z, fun i hi => ⟨b, off, rfl, ?_, ?_⟩, fun i hi => (hZ i hi).2, Nat.le_trans hl hm⟩
      · have hc := (hV i (by omega)).1
        rw [add_none] at hc
        exact lt_of_cell hc
      · have hc := (hV i (by omega)).1
        rw [add_none, (hZ i hi).1] at hc
        exact hc

end Op
theorem open_bytes {H : Type} {enc : TypeId × Value → H} {w : World} {ad : Option Addr} {len cap fuel : Nat} {x : DataW H × List MemPlace} (h : DataW.trod enc Tryd.prog w 0 (fun _ => true) true fuel 50 [.slice ad len cap] = some x) : ∃ Z : Nat → Int, RdY w ad len Z ∧ (∀ j, j < len → 0 ≤ Z j ∧ Z j ≤ 255) ∧ len ≤ maxLen := Op.open_bytes h
theorem alone_row (ad : Option Addr) (len cap : Nat) (Z : Nat → Int) (which : Int) (hwh : 0 ≤ which ∧ which ≤ 255) (w : World) (hw : WT w) (hZ : RdY w ad len Z) (hB : ∀ j, j < len → 0 ≤ Z j ∧ Z j ≤ 255) : Calls Tryd.prog 4 #[.slice ad len cap, .int .u8 which] w fun e w' => e = .returned (.bool true) ∧ Below w.heap.size w w' := alone_law ad len cap Z which hwh hZ hB hw
end Go.Proofs.YtnegdabcjnhpdaaDoor
