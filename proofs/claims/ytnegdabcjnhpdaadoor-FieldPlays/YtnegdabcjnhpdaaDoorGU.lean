/- One who lays alone: no world in sight. -/
import Derived.Test.YtnegdabcjnhpdaaDoorGK
import Derived.Test.YtnegdabcjnhpdaaDoorGL
import Derived.Test.YtnegdabcjnhpdaaDoorGD
namespace Go.Proofs.YtnegdabcjnhpdaaDoor
open Go.RowKit

theorem getD_setX (X : List Nat) (i j v : Nat) : (X.set i v).getD j 0 = if j = i ∧ i < X.length then v else X.getD j 0 := by
  simp only [List.getD_eq_getElem?_getD, List.getElem?_set]
  by_cases h : i = j
  · subst h
    by_cases h2 : i < X.length
    · simp [h2]
    · simp [h2]
  · simp [h, Ne.symm h]
theorem getD_set_eq {X : List Nat} {i v : Nat} (h : i < X.length) : (X.set i v).getD i 0 = v := by rw [getD_setX, if_pos ⟨rfl, h⟩]
theorem getD_set_ne' {X : List Nat} {i j v : Nat} (h : j ≠ i) : (X.set i v).getD j 0 = X.getD j 0 := by rw [getD_setX, if_neg (fun x => h x.1)]
theorem nm_word {r : Nat} (h : r < 40) : nm KC (r + 1) = (r : Int) := by
  unfold nm
  rw [if_pos (by show r + 1 ≤ 40; omega)]
  omega
theorem nm_zero : nm KC 0 = -1 := by decide

/-- What field f has: its newest record, that is stamped, if there is one; and the records that come are new. -/
structure Al (g : Gs) (f n : Nat) (last : Int) : Prop where
  len : g.X.length = 208
  clock : g.X.getD 0 0 = 1
  top : g.X.getD (KC.bd 0 f) 0 = 0 ∧ last = -1 ∨ ∃ r, 5 ≤ r ∧ r < n ∧ g.X.getD (KC.bd 0 f) 0 = r + 1 ∧ g.X.getD (KC.bd r 1) 0 ≠ 0 ∧ nm KC (g.X.getD (KC.bd r 0) 0) = last
  new : ∀ s, n ≤ s → s < 40 → g.X.getD (KC.bd s 1) 0 = 0
theorem al0 (f : Nat) (hf : f < 3) : Al g0 f 5 (-1) := by
  have h1 : (begX 40).getD 0 0 = 1 := by decide +kernel
  have h2 : ∀ s, s < 40 → (begX 40).getD (KC.bd s 1) 0 = 0 := by decide +kernel
  have h3 : ∀ i, i < 3 → (begX 40).getD (KC.bd 0 i) 0 = 0 := by decide +kernel
  exact ⟨begX_len 40, h1, .inl ⟨h3 f hf, rfl⟩, fun s _ hs => h2 s hs⟩
/-- A Lay under way, that nobody disturbs: so many steps are left at most. -/
structure Ly (l : La) (g : Gs) (f n : Nat) (last ex v : Int) : Prop where
  al : Al g f n last
  hf : f < 3
  hn : 5 ≤ n ∧ n < 40
  val : nm KC (g.X.getD (KC.bd n 0) 0) = v
  fresh : l.fresh = n
  field : l.n.field = KC.bd 0 f
  expect : l.expect = ex
  laid : l.laid = false
def Top (g : Gs) (f : Nat) (l : La) : Prop := l.n.word = g.X.getD (KC.bd 0 f) 0 ∧ l.n.rc = nm KC l.n.word
def Stg (l : La) (g : Gs) (f : Nat) (last ex : Int) : Nat → Prop := fun m =>
  (l.pc = 0 ∧ l.n.on = false ∧ 12 ≤ m) ∨
  (l.pc = 0 ∧ l.n.on = true ∧ Top g f l ∧ 0 ≤ l.n.rc ∧ l.n.s.pc = 0 ∧ l.n.s.place = KC.bd l.n.rc.toNat 1 ∧ 11 ≤ m) ∨
  (l.pc = 1 ∧ Top g f l ∧ 0 ≤ l.n.rc ∧ -1 ≤ ex ∧ 10 ≤ m) ∨
  (l.pc = 2 ∧ Top g f l ∧ (ex < -1 ∨ ex = last) ∧ 9 ≤ m) ∨
  (l.pc = 3 ∧ Top g f l ∧ (ex < -1 ∨ ex = last) ∧ ∃ s, l.sh = some s ∧ s.hd = KC.hd l.n.rc.toNat ∧ 0 ≤ l.n.rc ∧ (s.pc = 0 ∧ 8 ≤ m ∨ s.pc = 1 ∧ 7 ≤ m ∧ s.was = g.X.getD s.hd 0 ∨ s.pc = 2 ∧ 6 ≤ m ∧ s.was = g.X.getD s.hd 0)) ∨
  (l.pc = 4 ∧ Top g f l ∧ (ex < -1 ∨ ex = last) ∧ 5 ≤ m)
/-- Its record is in the field: it is stamped. -/
structure Sty (l : La) (g : Gs) (f n : Nat) (ex last v : Int) (m : Nat) : Prop where
  len : g.X.length = 208
  clock : g.X.getD 0 0 = 1
  hf : f < 3
  hn : 5 ≤ n ∧ n < 40
  pc : l.pc = 5
  top : g.X.getD (KC.bd 0 f) 0 = n + 1
  st : g.X.getD (KC.bd n 1) 0 = 0
  val : nm KC (g.X.getD (KC.bd n 0) 0) = v
  new : ∀ s, n + 1 ≤ s → s < 40 → g.X.getD (KC.bd s 1) 0 = 0
  place : l.n.s.place = KC.bd n 1
  ok : ex < -1 ∨ ex = last
  s : l.n.s.pc = 0 ∧ 4 ≤ m ∨ l.n.s.pc = 1 ∧ 3 ≤ m ∨ l.n.s.pc = 2 ∧ 2 ≤ m ∧ l.n.s.clock = 1
/-- What it comes to. -/
def LyEnd (l : La) (g : Gs) (f n : Nat) (last ex v : Int) : Prop :=
  (l.laid = false ∧ ¬ (ex < -1 ∨ ex = last) ∧ Al g f (n + 1) last) ∨ (l.laid = true ∧ (ex < -1 ∨ ex = last) ∧ Al g f (n + 1) v)
theorem Al.touch {g : Gs} {f n : Nat} {last : Int} (h : Al g f n last) (T : Int) : Al { g with T := T } f n last := ⟨h.len, h.clock, h.top, h.new⟩
theorem Al.mono {g : Gs} {f n : Nat} {last : Int} (h : Al g f n last) : Al g f (n + 1) last := ⟨h.len, h.clock, by
  rcases h.top with x | ⟨r, a, b, c⟩
  · exact .inl x
  · exact .inr ⟨r, a, by omega, c⟩, fun s hs h2 => h.new s (by omega) h2⟩
/-- A word is stored that the field doesn't hang on. -/
theorem Al.store {g : Gs} {f n : Nat} {last : Int} (h : Al g f n last) (hn : 5 ≤ n) {p w : Nat} (T : Int) (h0 : p ≠ 0) (h1 : p ≠ KC.bd 0 f) (h2 : ∀ s, 5 ≤ s → p ≠ KC.bd s 1) (h3 : ∀ s, 5 ≤ s → s < n → p ≠ KC.bd s 0) : Al { g with X := g.X.set p w, T := T } f n last := by
  refine ⟨by show (g.X.set p w).length = _; rw [List.length_set]; exact h.len, by show (g.X.set p w).getD 0 0 = _; rw [getD_set_ne' (Ne.symm h0)]; exact h.clock, ?_, fun s hs h4 => ?_⟩
  · show (g.X.set p w).getD (KC.bd 0 f) 0 = 0 ∧ last = -1 ∨ ∃ r, 5 ≤ r ∧ r < n ∧ (g.X.set p w).getD (KC.bd 0 f) 0 = r + 1 ∧ (g.X.set p w).getD (KC.bd r 1) 0 ≠ 0 ∧ nm KC ((g.X.set p w).getD (KC.bd r 0) 0) = last
    rw [getD_set_ne' (Ne.symm h1)]
    rcases h.top with x | ⟨r, a, b, c, d, e⟩
    · exact .inl x
    · exact .inr ⟨r, a, b, c, by rw [getD_set_ne' (Ne.symm (h2 r a))]; exact d, by rw [getD_set_ne' (Ne.symm (h3 r a b))]; exact e⟩
  · show (g.X.set p w).getD (KC.bd s 1) 0 = 0
    rw [getD_set_ne' (Ne.symm (h2 s (by omega)))]; exact h.new s hs h4

theorem Top.rec {g : Gs} {f n : Nat} {last : Int} {l : La} (h : Al g f n last) (t : Top g f l) : (l.n.rc = -1 ∧ last = -1 ∧ l.n.word = 0) ∨ ∃ r : Nat, l.n.rc = (r : Int) ∧ 5 ≤ r ∧ r < n ∧ l.n.word = r + 1 ∧ g.X.getD (KC.bd r 1) 0 ≠ 0 ∧ nm KC (g.X.getD (KC.bd r 0) 0) = last ∧ r < 40 ∨ 40 ≤ n := by
  obtain ⟨t1, t2⟩ := t
  rcases h.top with ⟨a, b⟩ | ⟨r, a, b, c, d, e⟩
  · left
    rw [t1, a] at t2
    exact ⟨by rw [t2]; exact nm_zero, b, by rw [t1, a]⟩
  · right
    by_cases hn : n < 40
    · exact ⟨r, .inl ⟨by rw [t2, t1, c]; exact nm_word (by omega), a, b, by rw [t1, c], d, e, by omega⟩⟩
    · exact ⟨r, .inr (by omega)⟩
theorem Top.rc0 {g : Gs} {f n : Nat} {last : Int} {l : La} (h : Al g f n last) (hn : n < 40) (t : Top g f l) (h0 : 0 ≤ l.n.rc) : ∃ r : Nat, l.n.rc = (r : Int) ∧ 5 ≤ r ∧ r < n ∧ l.n.word = r + 1 ∧ g.X.getD (KC.bd r 1) 0 ≠ 0 ∧ nm KC (g.X.getD (KC.bd r 0) 0) = last := by
  rcases t.rec h with ⟨a, _⟩ | ⟨r, ⟨a, b, c, d, e, k, _⟩ | q⟩
  · omega
  · exact ⟨r, a, b, c, d, e, k⟩
  · omega
def Next (x : La × Gs) (f n : Nat) (last ex v : Int) (m : Nat) : Prop :=
  (x.1.pc = 6 ∧ LyEnd x.1 x.2 f n last ex v) ∨ (x.1.pc ≠ 6 ∧ 1 ≤ m ∧ ((Ly x.1 x.2 f n last ex v ∧ Stg x.1 x.2 f last ex (m - 1)) ∨ Sty x.1 x.2 f n ex last v (m - 1)))
theorem La.found_next {l : La} {g : Gs} {f n : Nat} {last ex v : Int} {m : Nat} (h : Ly l g f n last ex v) (t : Top g f l) (hm : 11 ≤ m) : Next (l.found g, g) f n last ex v m := by
  have hex := h.expect
  unfold La.found Next
  by_cases c1 : l.expect < -1
  · rw [if_pos c1]
    exact .inr ⟨by show (2 : Int) ≠ 6; omega, by omega, .inl ⟨⟨h.al, h.hf, h.hn, h.val, h.fresh, h.field, h.expect, h.laid⟩, .inr (.inr (.inr (.inl ⟨rfl, t, by omega, by omega⟩)))⟩⟩
  · rw [if_neg c1]
    by_cases c2 : l.n.rc = -1
    · rw [if_pos c2]
      have hl : last = -1 := by
        rcases t.rec h.al with ⟨_, a, _⟩ | ⟨r, ⟨a, _⟩ | q⟩
        · exact a
        · omega
        · have := h.hn; omega
      unfold La.comp
      by_cases c3 : (-1 : Int) = l.expect
      · rw [if_pos c3]
        exact .inr ⟨by show (2 : Int) ≠ 6; omega, by omega, .inl ⟨⟨h.al, h.hf, h.hn, h.val, h.fresh, h.field, h.expect, h.laid⟩, .inr (.inr (.inr (.inl ⟨rfl, t, by omega, by omega⟩)))⟩⟩
      · rw [if_neg c3]
        exact .inl ⟨rfl, .inl ⟨h.laid, by omega, h.al.mono⟩⟩
    · rw [if_neg c2]
      have h0 : 0 ≤ l.n.rc := by
        have := nm_le KC_ok l.n.word
        have := t.2
        omega
      exact .inr ⟨by show (1 : Int) ≠ 6; omega, by omega, .inl ⟨⟨h.al, h.hf, h.hn, h.val, h.fresh, h.field, h.expect, h.laid⟩, .inr (.inr (.inl ⟨rfl, t, h0, by omega, by omega⟩))⟩⟩
theorem Next.more {x : La × Gs} {f n : Nat} {last ex v : Int} {m m' : Nat} (h : Next x f n last ex v m) (hm : m ≤ m') : Next x f n last ex v m' := by
  rcases h with h | ⟨a, b, ⟨c, d⟩ | c⟩
  · exact .inl h
  · refine .inr ⟨a, by omega, .inl ⟨c, ?_⟩⟩
    rcases d with ⟨p, q, r⟩ | ⟨p, q, r, s, t, u, z⟩ | ⟨p, q, r, s, t⟩ | ⟨p, q, r, s⟩ | ⟨p, q, r, s, t1, t2, t3, t4⟩ | ⟨p, q, r, s⟩
    · exact .inl ⟨p, q, by omega⟩
    · exact .inr (.inl ⟨p, q, r, s, t, u, by omega⟩)
    · exact .inr (.inr (.inl ⟨p, q, r, s, by omega⟩))
    · exact .inr (.inr (.inr (.inl ⟨p, q, r, by omega⟩)))
    · refine .inr (.inr (.inr (.inr (.inl ⟨p, q, r, s, t1, t2, t3, ?_⟩))))
      rcases t4 with k | k | k
      · exact .inl ⟨k.1, by omega⟩
      · exact .inr (.inl ⟨k.1, by omega, k.2.2⟩)
      · exact .inr (.inr ⟨k.1, by omega, k.2.2⟩)
    · exact .inr (.inr (.inr (.inr (.inr ⟨p, q, r, by omega⟩))))
  · refine .inr ⟨a, by omega, .inr ⟨c.len, c.clock, c.hf, c.hn, c.pc, c.top, c.st, c.val, c.new, c.place, c.ok, ?_⟩⟩
    rcases c.s with k | k | k
    · exact .inl ⟨k.1, by omega⟩
    · exact .inr (.inl ⟨k.1, by omega⟩)
    · exact .inr (.inr ⟨k.1, by omega, k.2.2⟩)
theorem ly_step {l : La} {g : Gs} {f n : Nat} {last ex v : Int} {m : Nat} (h : Ly l g f n last ex v) (st : Stg l g f last ex m) (B Q : Nat) : Next (l.step KC B Q g) f n last ex v m := by
  have hn := h.hn
  have hf := h.hf
  rcases st with ⟨p, on, hm⟩ | ⟨p, on, t, r0, s0, sp, hm⟩ | ⟨p, t, r0, e1, hm⟩ | ⟨p, t, ok, hm⟩ | ⟨p, t, ok, s, hs, shd, r0, hsm⟩ | ⟨p, t, ok, hm⟩
  · -- the field is loaded
    have hst : l.step KC B Q g = (if (l.n.find KC B g).1.on = true then { l with n := (l.n.find KC B g).1 } else La.found { l with n := (l.n.find KC B g).1 } (l.n.find KC B g).2, (l.n.find KC B g).2) := by unfold La.step; rw [if_pos p]
    have hfi : l.n.find KC B g = ({ l.n with word := g.X.getD l.n.field 0, since := g.k.now, rc := nm KC (g.X.getD l.n.field 0), sb := if nm KC (g.X.getD l.n.field 0) = -1 then l.n.sb else some ⟨B, 0, none⟩, s := if nm KC (g.X.getD l.n.field 0) = -1 then l.n.s else ⟨nm KC (g.X.getD l.n.field 0), KC.bd (nm KC (g.X.getD l.n.field 0)).toNat 1, 0, 0, 0⟩, on := !decide (nm KC (g.X.getD l.n.field 0) = -1) }, { g with T := g.T + 1 }) := by
      unfold Nw.find
      rw [if_neg (by rw [on]; simp)]
    rw [hst, hfi]
    simp only
    have hfd := h.field
    by_cases c : nm KC (g.X.getD l.n.field 0) = -1
    · simp only [c, decide_true, Bool.not_true]
      rw [if_neg (by simp)]
      refine Next.more (La.found_next (n := n) (m := 11) ⟨h.al.touch _, hf, hn, h.val, h.fresh, hfd, h.expect, h.laid⟩ ⟨?_, ?_⟩ (by omega)) (by omega)
      · show g.X.getD l.n.field 0 = g.X.getD (KC.bd 0 f) 0
        rw [hfd]
      · exact c.symm
    · simp only [c, if_false]
      have h0 : 0 ≤ nm KC (g.X.getD l.n.field 0) := by have := nm_le KC_ok (g.X.getD l.n.field 0); omega
      refine .inr ⟨by show l.pc ≠ 6; omega, by omega, .inl ⟨⟨h.al.touch _, hf, hn, h.val, h.fresh, hfd, h.expect, h.laid⟩, .inr (.inl ⟨p, rfl, ⟨?_, rfl⟩, h0, rfl, rfl, by omega⟩)⟩⟩
      show g.X.getD l.n.field 0 = g.X.getD (KC.bd 0 f) 0
      rw [hfd]
  · -- the record's stamp is loaded
    obtain ⟨r, hr, h5, hrn, hw, hst, hv⟩ := Top.rc0 h.al hn.2 t r0
    have hpl : l.n.s.place = KC.bd r 1 := by rw [sp, hr]; rfl
    have hz : ¬ g.X.getD l.n.s.place 0 = 0 := by rw [hpl]; exact hst
    have hss : l.n.s.step g = ({ l.n.s with pc := 3 }, { g with T := g.T + 1 }) := by
      unfold Sm.step
      rw [if_pos s0, if_neg hz]
    have hst : l.step KC B Q g = (if (l.n.find KC B g).1.on = true then { l with n := (l.n.find KC B g).1 } else La.found { l with n := (l.n.find KC B g).1 } (l.n.find KC B g).2, (l.n.find KC B g).2) := by unfold La.step; rw [if_pos p]
    have hfi : l.n.find KC B g = ({ l.n with s := { l.n.s with pc := 3 }, on := false }, { g with T := g.T + 1 }) := by
      unfold Nw.find
      rw [if_pos on, hss]
      simp
    rw [hst, hfi]
    simp only
    rw [if_neg (by simp)]
    exact La.found_next (n := n) ⟨h.al.touch _, hf, hn, h.val, h.fresh, h.field, h.expect, h.laid⟩ t (by omega)
  · -- the value is compared
    obtain ⟨r, hr, h5, hrn, hw, hst, hv⟩ := Top.rc0 h.al hn.2 t r0
    have hst : l.step KC B Q g = (l.comp { g with T := g.T + 1 } (nm KC (g.X.getD (KC.bd l.n.rc.toNat 0) 0)), { g with T := g.T + 1 }) := by unfold La.step; rw [if_neg (by omega), if_pos p]
    rw [hst, hr, Int.toNat_natCast, hv]
    have hex := h.expect
    unfold La.comp
    by_cases c : last = l.expect
    · rw [if_pos c]
      exact .inr ⟨by show (2 : Int) ≠ 6; omega, by omega, .inl ⟨⟨h.al.touch _, hf, hn, h.val, h.fresh, h.field, h.expect, h.laid⟩, .inr (.inr (.inr (.inl ⟨rfl, t, by omega, by omega⟩)))⟩⟩
    · rw [if_neg c]
      exact .inl ⟨rfl, .inl ⟨h.laid, by omega, (h.al.touch _).mono⟩⟩
  · -- the older record is stored
    have hst : l.step KC B Q g = (if l.n.rc ≠ -1 ∧ Hh.fen l.e = true then { l with pc := 3, sh := some ⟨Q, false, KC.hd l.n.rc.toNat, 0, 0, 0⟩ } else { l with pc := 4 }, l.oldG KC g) := by unfold La.step; rw [if_neg (by omega), if_neg (by omega), if_pos p]
    rw [hst]
    have hal : Al (l.oldG KC g) f n last := h.al.store hn.1 _ (by rw [KC_bd]; omega) (by rw [KC_bd, KC_bd, h.fresh]; omega) (fun s _ => by rw [KC_bd, KC_bd]; omega) (fun s _ _ => by rw [KC_bd, KC_bd]; omega)
    have hval : nm KC ((l.oldG KC g).X.getD (KC.bd n 0) 0) = v := by
      show nm KC ((g.X.set (KC.bd l.fresh 2) _).getD (KC.bd n 0) 0) = v
      rw [getD_set_ne' (by rw [KC_bd, KC_bd]; omega)]; exact h.val
    have ht : ∀ l' : La, l'.n = l.n → Top (l.oldG KC g) f l' := fun l' e => by
      refine ⟨?_, by rw [e]; exact t.2⟩
      show _ = (g.X.set (KC.bd l.fresh 2) _).getD (KC.bd 0 f) 0
      rw [getD_set_ne' (by rw [KC_bd, KC_bd, h.fresh]; omega), e]; exact t.1
    by_cases c : l.n.rc ≠ -1 ∧ Hh.fen l.e = true
    · rw [if_pos c]
      have h0 : 0 ≤ l.n.rc := by have := nm_le KC_ok l.n.word; have := t.2; omega
      exact .inr ⟨by show (3 : Int) ≠ 6; omega, by omega, .inl ⟨⟨hal, hf, hn, hval, h.fresh, h.field, h.expect, h.laid⟩, .inr (.inr (.inr (.inr (.inl ⟨rfl, ht _ rfl, ok, _, rfl, rfl, h0, .inl ⟨rfl, by omega⟩⟩))))⟩⟩
    · rw [if_neg c]
      exact .inr ⟨by show (4 : Int) ≠ 6; omega, by omega, .inl ⟨⟨hal, hf, hn, hval, h.fresh, h.field, h.expect, h.laid⟩, .inr (.inr (.inr (.inr (.inr ⟨rfl, ht _ rfl, ok, by omega⟩))))⟩⟩
  · -- the older record is shaded
    obtain ⟨r, hr, h5, hrn, hw, _, _⟩ := Top.rc0 h.al hn.2 t r0
    have hhd : s.hd = 8 + r * 5 := by rw [shd, hr, Int.toNat_natCast, KC_hd]
    have hst : l.step KC B Q g = ({ l with sh := some (s.step l.e g).1, pc := if (s.step l.e g).1.pc = 4 then 4 else 3 }, (s.step l.e g).2) := by unfold La.step; rw [if_neg (by omega), if_neg (by omega), if_neg (by omega), if_pos p, hs]
    rw [hst]
    have keep : ∀ (p' w : Nat) (T : Int) (l' : La), (p' = 2 ∨ p' = s.hd) → l'.n = l.n → l'.fresh = l.fresh → l'.expect = l.expect → l'.laid = l.laid → Ly l' { g with X := g.X.set p' w, T := T } f n last ex v ∧ Top { g with X := g.X.set p' w, T := T } f l' := fun p' w T l' hp e1 e2 e3 e4 => by
      refine ⟨⟨h.al.store hn.1 T (by omega) (by rw [KC_bd]; omega) (fun s' _ => by rw [KC_bd]; omega) (fun s' _ _ => by rw [KC_bd]; omega), hf, hn, ?_, by rw [e2]; exact h.fresh, by rw [e1]; exact h.field, by rw [e3]; exact h.expect, by rw [e4]; exact h.laid⟩, ?_, by rw [e1]; exact t.2⟩
      · show nm KC ((g.X.set p' w).getD (KC.bd n 0) 0) = v
        rw [getD_set_ne' (by rw [KC_bd]; omega)]; exact h.val
      · show _ = (g.X.set p' w).getD (KC.bd 0 f) 0
        rw [getD_set_ne' (by rw [KC_bd]; omega), e1]; exact t.1
    have keep0 : ∀ (T : Int) (l' : La), l'.n = l.n → l'.fresh = l.fresh → l'.expect = l.expect → l'.laid = l.laid → Ly l' { g with T := T } f n last ex v ∧ Top { g with T := T } f l' := fun T l' e1 e2 e3 e4 =>
      ⟨⟨h.al.touch T, hf, hn, h.val, by rw [e2]; exact h.fresh, by rw [e1]; exact h.field, by rw [e3]; exact h.expect, by rw [e4]; exact h.laid⟩, by rw [e1]; exact t.1, by rw [e1]; exact t.2⟩
    rcases hsm with ⟨k, hm⟩ | ⟨k, hm, hwas⟩ | ⟨k, hm, hwas⟩
    · have hsd : s.step l.e g = if canS (g.X.getD s.hd 0) l.e = true then ({ s with pc := 1, was := g.X.getD s.hd 0, nw := shN (g.X.getD s.hd 0) l.e }, { g with T := g.T + 1 }) else ({ s with pc := 4, was := g.X.getD s.hd 0, nw := g.X.getD s.hd 0 }, { g with T := g.T + 1 }) := by unfold Sd.step; rw [if_pos k]
      rw [hsd]
      by_cases c : canS (g.X.getD s.hd 0) l.e = true
      · rw [if_pos c]
        obtain ⟨a, b⟩ := keep0 (g.T + 1) { l with sh := some { s with pc := 1, was := g.X.getD s.hd 0, nw := shN (g.X.getD s.hd 0) l.e }, pc := if (1 : Int) = 4 then 4 else 3 } rfl rfl rfl rfl
        exact .inr ⟨by show (if (1 : Int) = 4 then (4 : Int) else 3) ≠ 6; decide, by omega, .inl ⟨a, .inr (.inr (.inr (.inr (.inl ⟨rfl, b, ok, _, rfl, shd, r0, .inr (.inl ⟨rfl, by omega, rfl⟩)⟩))))⟩⟩
      · rw [if_neg c]
        obtain ⟨a, b⟩ := keep0 (g.T + 1) { l with sh := some { s with pc := 4, was := g.X.getD s.hd 0, nw := g.X.getD s.hd 0 }, pc := if (4 : Int) = 4 then 4 else 3 } rfl rfl rfl rfl
        exact .inr ⟨by show (if (4 : Int) = 4 then (4 : Int) else 3) ≠ 6; decide, by omega, .inl ⟨a, .inr (.inr (.inr (.inr (.inr ⟨rfl, b, ok, by omega⟩))))⟩⟩
    · have hsd : s.step l.e g = ({ s with pc := 2 }, { g with X := g.X.set 2 (Mm.sumW (g.X.getD 2 0) 1), T := g.T + 1 }) := by unfold Sd.step; rw [if_neg (by omega), if_pos k]
      rw [hsd]
      obtain ⟨a, b⟩ := keep 2 (Mm.sumW (g.X.getD 2 0) 1) (g.T + 1) { l with sh := some { s with pc := 2 }, pc := if (2 : Int) = 4 then 4 else 3 } (.inl rfl) rfl rfl rfl rfl
      refine .inr ⟨by show (if (2 : Int) = 4 then (4 : Int) else 3) ≠ 6; decide, by omega, .inl ⟨a, .inr (.inr (.inr (.inr (.inl ⟨rfl, b, ok, _, rfl, shd, r0, .inr (.inr ⟨rfl, by omega, ?_⟩)⟩))))⟩⟩
      show s.was = (g.X.set 2 _).getD s.hd 0
      rw [getD_set_ne' (by omega)]; exact hwas
    · have hsd : s.step l.e g = ({ s with gw := true, pc := 4 }, { g with X := g.X.set s.hd s.nw, T := g.T + 1 }) := by unfold Sd.step; rw [if_neg (by omega), if_neg (by omega), if_pos k, if_pos hwas.symm]
      rw [hsd]
      obtain ⟨a, b⟩ := keep s.hd s.nw (g.T + 1) { l with sh := some { s with gw := true, pc := 4 }, pc := if (4 : Int) = 4 then 4 else 3 } (.inr rfl) rfl rfl rfl rfl
      exact .inr ⟨by show (if (4 : Int) = 4 then (4 : Int) else 3) ≠ 6; decide, by omega, .inl ⟨a, .inr (.inr (.inr (.inr (.inr ⟨rfl, b, ok, by omega⟩))))⟩⟩
  · -- the field is swapped
    have hst : l.step KC B Q g = l.swap KC B g := by unfold La.step; rw [if_neg (by omega), if_neg (by omega), if_neg (by omega), if_neg (by omega), if_pos p]
    rw [hst]
    unfold La.swap
    rw [if_pos (by rw [h.field]; exact t.1.symm)]
    have hF : KC.bd 0 f < g.X.length := by rw [h.al.len, KC_bd]; omega
    refine .inr ⟨by show (5 : Int) ≠ 6; omega, by omega, .inr ⟨?_, ?_, hf, hn, rfl, ?_, ?_, ?_, fun s hs h4 => ?_, ?_, ok, .inl ⟨rfl, by omega⟩⟩⟩
    · show (g.X.set _ _).length = 208; rw [List.length_set]; exact h.al.len
    · show (g.X.set l.n.field _).getD 0 0 = 1; rw [h.field, getD_set_ne' (by rw [KC_bd]; omega)]; exact h.al.clock
    · show (g.X.set l.n.field (l.fresh + 1)).getD (KC.bd 0 f) 0 = n + 1; rw [h.field, getD_set_eq hF, h.fresh]
    · show (g.X.set l.n.field _).getD (KC.bd n 1) 0 = 0; rw [h.field, getD_set_ne' (by rw [KC_bd, KC_bd]; omega)]; exact h.al.new n (Nat.le_refl _) hn.2
    · show nm KC ((g.X.set l.n.field _).getD (KC.bd n 0) 0) = v; rw [h.field, getD_set_ne' (by rw [KC_bd, KC_bd]; omega)]; exact h.val
    · show (g.X.set l.n.field _).getD (KC.bd s 1) 0 = 0; rw [h.field, getD_set_ne' (by rw [KC_bd, KC_bd]; omega)]; exact h.al.new s (by omega) h4
    · show KC.bd l.fresh 1 = KC.bd n 1; rw [h.fresh]
theorem sty_step {l : La} {g : Gs} {f n : Nat} {ex last v : Int} {m : Nat} (h : Sty l g f n ex last v m) (B Q : Nat) : Next (l.step KC B Q g) f n last ex v m := by
  have hn := h.hn
  have hf := h.hf
  have hst : l.step KC B Q g = l.stamp g := by
    have := h.pc
    unfold La.step
    rw [if_neg (by omega), if_neg (by omega), if_neg (by omega), if_neg (by omega), if_neg (by omega), if_pos h.pc]
  rw [hst]
  unfold La.stamp
  have hz : g.X.getD l.n.s.place 0 = 0 := by rw [h.place]; exact h.st
  rcases h.s with ⟨k, hm⟩ | ⟨k, hm⟩ | ⟨k, hm, hc⟩
  · have hs : l.n.s.step g = ({ l.n.s with pc := 1 }, { g with T := g.T + 1 }) := by unfold Sm.step; rw [if_pos k, if_pos hz]
    rw [hs]
    simp only
    rw [if_neg (by omega)]
    exact .inr ⟨by show l.pc ≠ 6; have := h.pc; omega, by omega, .inr ⟨h.len, h.clock, hf, hn, h.pc, h.top, h.st, h.val, h.new, h.place, h.ok, .inr (.inl ⟨rfl, by omega⟩)⟩⟩
  · have hs : l.n.s.step g = ({ l.n.s with pc := 2, clock := g.X.getD 0 0, point := g.k.now }, { g with T := g.T + 1 }) := by unfold Sm.step; rw [if_neg (by omega), if_pos k]
    rw [hs]
    simp only
    rw [if_neg (by omega)]
    exact .inr ⟨by show l.pc ≠ 6; have := h.pc; omega, by omega, .inr ⟨h.len, h.clock, hf, hn, h.pc, h.top, h.st, h.val, h.new, h.place, h.ok, .inr (.inr ⟨rfl, by omega, h.clock⟩)⟩⟩
  · have hs : l.n.s.step g = ({ l.n.s with pc := 3 }, ⟨g.X.set l.n.s.place l.n.s.clock, g.T + 1, { g.k with born := upd g.k.born l.n.s.rc l.n.s.point }⟩) := by unfold Sm.step; rw [if_neg (by omega), if_neg (by omega), if_pos k, if_pos hz]
    rw [hs]
    simp only [if_true]
    have hF : KC.bd n 1 < g.X.length := by rw [h.len, KC_bd]; omega
    refine .inl ⟨rfl, .inr ⟨rfl, h.ok, ⟨?_, ?_, .inr ⟨n, hn.1, by omega, ?_, ?_, ?_⟩, fun s hs h4 => ?_⟩⟩⟩
    · show (g.X.set _ _).length = 208; rw [List.length_set]; exact h.len
    · show (g.X.set l.n.s.place _).getD 0 0 = 1; rw [h.place, getD_set_ne' (by rw [KC_bd]; omega)]; exact h.clock
    · show (g.X.set l.n.s.place _).getD (KC.bd 0 f) 0 = n + 1; rw [h.place, getD_set_ne' (by rw [KC_bd, KC_bd]; omega)]; exact h.top
    · show (g.X.set l.n.s.place l.n.s.clock).getD (KC.bd n 1) 0 ≠ 0; rw [h.place, getD_set_eq hF, hc]; omega
    · show nm KC ((g.X.set l.n.s.place _).getD (KC.bd n 0) 0) = v; rw [h.place, getD_set_ne' (by rw [KC_bd, KC_bd]; omega)]; exact h.val
    · show (g.X.set l.n.s.place _).getD (KC.bd s 1) 0 = 0; rw [h.place, getD_set_ne' (by rw [KC_bd, KC_bd]; omega)]; exact h.new s hs h4
end Go.Proofs.YtnegdabcjnhpdaaDoor
/- One who reads alone: no world in sight. -/
namespace Go.Proofs.YtnegdabcjnhpdaaDoor
open Go.RowKit

/-- A Read under way, that nobody disturbs. -/
def Ra (r : Rd) (g : Gs) (f : Nat) (m : Nat) : Prop := r.n.field = KC.bd 0 f ∧
  ((r.pc = 0 ∧ r.n.on = false ∧ 3 ≤ m) ∨
   (r.pc = 0 ∧ r.n.on = true ∧ r.n.rc = nm KC (g.X.getD (KC.bd 0 f) 0) ∧ 0 ≤ r.n.rc ∧ r.n.s.pc = 0 ∧ r.n.s.place = KC.bd r.n.rc.toNat 1 ∧ 2 ≤ m) ∨
   (r.pc = 1 ∧ r.n.rc = nm KC (g.X.getD (KC.bd 0 f) 0) ∧ 0 ≤ r.n.rc ∧ 1 ≤ m))
theorem Al.rc {g : Gs} {f n : Nat} {last : Int} (h : Al g f n last) (hn : n ≤ 40) : (nm KC (g.X.getD (KC.bd 0 f) 0) = -1 ∧ last = -1) ∨ ∃ r : Nat, nm KC (g.X.getD (KC.bd 0 f) 0) = (r : Int) ∧ g.X.getD (KC.bd r 1) 0 ≠ 0 ∧ nm KC (g.X.getD (KC.bd r 0) 0) = last := by
  rcases h.top with ⟨a, b⟩ | ⟨r, a, b, c, d, e⟩
  · rw [a]; exact .inl ⟨nm_zero, b⟩
  · exact .inr ⟨r, by rw [c]; exact nm_word (by omega), d, e⟩
theorem ra_step {r : Rd} {g : Gs} {f n : Nat} {last : Int} {m : Nat} (h : Al g f n last) (hn : n ≤ 40) (st : Ra r g f m) (B : Nat) :
    Al (r.step KC B g).2 f n last ∧ (((r.step KC B g).1.pc = 2 ∧ (r.step KC B g).1.val = last ∧ (nm KC (g.X.getD (KC.bd 0 f) 0) = -1 → (r.step KC B g).1.rc = -1)) ∨ ((r.step KC B g).1.pc ≠ 2 ∧ 2 ≤ m ∧ Ra (r.step KC B g).1 (r.step KC B g).2 f (m - 1))) := by
  obtain ⟨hfd, st⟩ := st
  rcases st with ⟨p, on, hm⟩ | ⟨p, on, t, r0, s0, sp, hm⟩ | ⟨p, t, r0, hm⟩
  · have hfi : r.n.find KC B g = ({ r.n with word := g.X.getD r.n.field 0, since := g.k.now, rc := nm KC (g.X.getD r.n.field 0), sb := if nm KC (g.X.getD r.n.field 0) = -1 then r.n.sb else some ⟨B, 0, none⟩, s := if nm KC (g.X.getD r.n.field 0) = -1 then r.n.s else ⟨nm KC (g.X.getD r.n.field 0), KC.bd (nm KC (g.X.getD r.n.field 0)).toNat 1, 0, 0, 0⟩, on := !decide (nm KC (g.X.getD r.n.field 0) = -1) }, { g with T := g.T + 1 }) := by
      unfold Nw.find
      rw [if_neg (by rw [on]; simp)]
    unfold Rd.step
    rw [if_pos p, hfi]
    simp only
    by_cases c : nm KC (g.X.getD r.n.field 0) = -1
    · simp only [c, decide_true, Bool.not_true]
      rw [if_neg (by simp), if_pos trivial]
      refine ⟨h.touch _, .inl ⟨rfl, ?_, fun _ => rfl⟩⟩
      rw [hfd] at c
      rcases h.rc hn with ⟨_, b⟩ | ⟨r', b, _⟩
      · exact b.symm
      · omega
    · simp only [c, if_false]
      have h0 : 0 ≤ nm KC (g.X.getD r.n.field 0) := by have := nm_le KC_ok (g.X.getD r.n.field 0); omega
      refine ⟨h.touch _, .inr ⟨by show r.pc ≠ 2; omega, by omega, hfd, .inr (.inl ⟨p, rfl, ?_, h0, rfl, rfl, by omega⟩)⟩⟩
      show nm KC (g.X.getD r.n.field 0) = nm KC (g.X.getD (KC.bd 0 f) 0)
      rw [hfd]
  · rcases h.rc hn with ⟨a, b⟩ | ⟨q, a, b, c⟩
    · omega
    · have hz : ¬ g.X.getD r.n.s.place 0 = 0 := by rw [sp, t, a]; exact b
      have hss : r.n.s.step g = ({ r.n.s with pc := 3 }, { g with T := g.T + 1 }) := by
        unfold Sm.step
        rw [if_pos s0, if_neg hz]
      have hfi : r.n.find KC B g = ({ r.n with s := { r.n.s with pc := 3 }, on := false }, { g with T := g.T + 1 }) := by
        unfold Nw.find
        rw [if_pos on, hss]
        simp
      unfold Rd.step
      rw [if_pos p, hfi]
      simp only
      rw [if_neg (by simp), if_neg (by omega)]
      exact ⟨h.touch _, .inr ⟨by show (1 : Int) ≠ 2; omega, by omega, hfd, .inr (.inr ⟨rfl, t, r0, by omega⟩)⟩⟩
  · rcases h.rc hn with ⟨a, b⟩ | ⟨q, a, b, c⟩
    · omega
    · unfold Rd.step
      rw [if_neg (by omega), if_pos p]
      refine ⟨h.touch _, .inl ⟨rfl, ?_, fun x => by omega⟩⟩
      show nm KC (g.X.getD (KC.bd r.n.rc.toNat 0) 0) = last
      rw [t, a]; exact c
end Go.Proofs.YtnegdabcjnhpdaaDoor
/- Whatever hands do: the fields' records, their stamps and points: no world in sight. -/
namespace Go.Proofs.YtnegdabcjnhpdaaDoor
open Go.RowKit

/-- A record that was laid: its slot, when, and by which act. -/
structure Lrw where
  r : Nat
  l : Int
  a : Ac
/-- A word leads to these records, the newest first. -/
def Lk (X : List Nat) : List Lrw → Nat → Prop
  | [], w => w = 0
  | c :: t, w => w = c.r + 1 ∧ Lk X t (X.getD (KC.bd c.r 2) 0)
def tv : List Lrw → Int
  | [] => -1
  | c :: _ => sl c.a.val
/-- A record has a stamp, and a point. -/
def Stm (g : Gs) (r s : Nat) (b : Int) : Prop := 5 ≤ r ∧ g.X.getD (KC.bd r 1) 0 = s ∧ s ≠ 0 ∧ g.k.born r = some b
/-- What the clock was at a time. -/
def Ck (g : Gs) (m : Int) (s : Nat) (p : Int) : Prop := 1 ≤ s ∧ s ≤ g.X.getD 0 0 ∧ 0 ≤ p ∧ p ≤ m ∧ ∀ (v : Nat) (t : Int), g.k.turned v = some t → (s ≤ v ∧ p < t) ∨ (v < s ∧ t < p)
def H0 : Nat := (begX 40).getD (KC.hd 5) 0
def H1 : Nat := shN H0 2
theorem can0 : canS H0 2 = true := by decide +kernel
theorem can1 : canS H1 2 = false := by decide +kernel
def Out (ch : Nat → List Lrw) (r : Nat) : Prop := ∀ f c, c ∈ ch f → c.r ≠ r
theorem Lk.set {X : List Nat} {p v : Nat} : ∀ {ch : List Lrw} {w : Nat}, Lk X ch w → (∀ c ∈ ch, p ≠ KC.bd c.r 2) → Lk (X.set p v) ch w
  | [], _, h, _ => h
  | c :: t, w, h, hp => by
    obtain ⟨h1, h2⟩ := h
    refine ⟨h1, ?_⟩
    rw [getD_set_ne' (Ne.symm (hp c (by simp)))]
    exact Lk.set h2 fun c' h' => hp c' (by simp [h'])
theorem Lk.word {X X' : List Nat} {ch : List Lrw} {w w' : Nat} (h : Lk X ch w) (h' : Lk X' ch w') : w = w' := by
  cases ch with
  | nil => exact (show w = 0 from h).trans (show w' = 0 from h').symm
  | cons c t => exact h.1.trans h'.1.symm

/-- What holds of the words and the book, behind all that was done up to a time. -/
structure Sh (g : Gs) (nx : Nat) (ch : Nat → List Lrw) (m : Int) : Prop where
  len : g.X.length = 208
  hnx : 5 ≤ nx ∧ nx ≤ 40
  m0 : -1 ≤ m
  clk : 1 ≤ g.X.getD 0 0 ∧ ((g.X.getD 0 0 : Nat) : Int) ≤ g.T + 1
  t1 : ∀ v : Nat, 1 ≤ v → v < g.X.getD 0 0 → ∃ t, g.k.turned v = some t
  t2 : ∀ (v : Nat) (t : Int), g.k.turned v = some t → v < g.X.getD 0 0 ∧ 0 ≤ t ∧ t ≤ m
  b0 : g.k.born (-1) = none
  link : ∀ f, f < 2 → Lk g.X (ch f) (g.X.getD (KC.bd 0 f) 0)
  rw : ∀ f c, c ∈ ch f → f < 2 ∧ (5 ≤ c.r ∧ c.r < nx) ∧ (0 ≤ c.l ∧ c.l ≤ m) ∧ nm KC (g.X.getD (KC.bd c.r 0) 0) = sl c.a.val ∧ c.a.fld = (f : Int) ∧ (c.a.kind = 1 ∨ c.a.kind = 2)
  nd : ((ch 0 ++ ch 1).map (·.r)).Nodup
  ord : ∀ f n c t, ch f = n ++ c :: t → ∀ d ∈ n, ∃ s b, Stm g c.r s b ∧ b < d.l
  st : ∀ f c, c ∈ ch f → (g.X.getD (KC.bd c.r 1) 0 = 0 ∧ g.k.born c.r = none) ∨ ∃ s b, Stm g c.r s b ∧ c.l < b ∧ Ck g m s b
  prv : ∀ r, 5 ≤ r → r < 40 → Out ch r → g.X.getD (KC.bd r 1) 0 = 0 ∧ g.k.born r = none
  ex : ∀ f n c t, ch f = n ++ c :: t → c.a.kind = 2 → tv t = sl c.a.expect
  hd : ∀ s, 5 ≤ s → s < 40 → g.X.getD (KC.hd s) 0 = H0 ∨ g.X.getD (KC.hd s) 0 = H1
/-- What a step may have changed; o: the record that the one that stepped has for itself. -/
structure Ef (g : Gs) (nx : Nat) (ch : Nat → List Lrw) (m : Int) (g' : Gs) (nx' : Nat) (ch' : Nat → List Lrw) (m' : Int) (o : Option Nat) : Prop where
  hm : m ≤ m'
  hnx : nx ≤ nx'
  app : ∀ f, ∃ n, ch' f = n ++ ch f ∧ ∀ c ∈ n, m < c.l
  kS : ∀ r s b, Stm g r s b → Stm g' r s b
  kC : ∀ s p, Ck g m s p → Ck g' m' s p
  tu : ∀ (v : Nat) (t : Int), g.k.turned v = some t → g'.k.turned v = some t
  clk : g.X.getD 0 0 ≤ g'.X.getD 0 0
  prv : ∀ r, 5 ≤ r → r < nx → o ≠ some r → Out ch r → g'.X.getD (KC.bd r 0) 0 = g.X.getD (KC.bd r 0) 0 ∧ g'.X.getD (KC.bd r 2) 0 = g.X.getD (KC.bd r 2) 0 ∧ Out ch' r
  hd : ∀ s, 5 ≤ s → s < 40 → g.X.getD (KC.hd s) 0 = H1 → g'.X.getD (KC.hd s) 0 = H1
section
variable {g g' g2 : Gs} {nx nx' nx2 : Nat} {ch ch' ch2 : Nat → List Lrw} {m m' m2 : Int} {o : Option Nat}
theorem Ck.mono {s : Nat} {p : Int} (h : Ck g m s p) (hm : m ≤ m') : Ck g m' s p := ⟨h.1, h.2.1, h.2.2.1, by have := h.2.2.2.1; omega, h.2.2.2.2⟩
theorem Ef.refl (hm : m ≤ m') (o : Option Nat) : Ef g nx ch m g nx ch m' o :=
  ⟨hm, Nat.le_refl _, fun f => ⟨[], rfl, fun c h => by cases h⟩, fun _ _ _ h => h, fun _ _ h => h.mono hm, fun _ _ h => h, Nat.le_refl _, fun _ _ _ _ h => ⟨rfl, rfl, h⟩, fun _ _ _ h => h⟩
theorem Ef.trans {o : Option Nat} (h : Ef g nx ch m g' nx' ch' m' o) (k : Ef g' nx' ch' m' g2 nx2 ch2 m2 o) : Ef g nx ch m g2 nx2 ch2 m2 o := by
  refine ⟨Int.le_trans h.hm k.hm, Nat.le_trans h.hnx k.hnx, fun f => ?_, fun r s b x => k.kS r s b (h.kS r s b x), fun s p x => k.kC s p (h.kC s p x), fun v t x => k.tu v t (h.tu v t x), Nat.le_trans h.clk k.clk, fun r h5 hn ho hu => ?_, fun s h5 h4 x => k.hd s h5 h4 (h.hd s h5 h4 x)⟩
  · obtain ⟨n, e, hl⟩ := h.app f
    obtain ⟨n', e', hl'⟩ := k.app f
    refine ⟨n' ++ n, by rw [e', e, List.append_assoc], fun c hc => ?_⟩
    rcases List.mem_append.1 hc with q | q
    · have := hl' c q; have := h.hm; omega
    · exact hl c q
  · obtain ⟨a, b, c⟩ := h.prv r h5 hn ho hu
    obtain ⟨a', b', c'⟩ := k.prv r h5 (Nat.lt_of_lt_of_le hn h.hnx) ho c
    exact ⟨a'.trans a, b'.trans b, c'⟩
theorem inj_nd : ∀ {l : List Lrw}, (l.map (·.r)).Nodup → ∀ a ∈ l, ∀ b ∈ l, a.r = b.r → a = b := by
  intro l
  induction l with
  | nil => intro _ a ha; cases ha
  | cons c l ih =>
    intro h a ha b hb e
    simp only [List.map_cons, List.nodup_cons, List.mem_map, not_exists, not_and] at h
    simp only [List.mem_cons] at ha hb
    rcases ha with rfl | ha <;> rcases hb with rfl | hb
    · rfl
    · exact absurd e.symm (h.1 b hb)
    · exact absurd e (h.1 a ha)
    · exact ih h.2 a ha b hb e
theorem Sh.in2 (h : Sh g nx ch m) {f : Nat} {c : Lrw} (hc : c ∈ ch f) : c ∈ ch 0 ++ ch 1 := by
  have := (h.rw f c hc).1
  rcases (show f = 0 ∨ f = 1 by omega) with rfl | rfl
  · exact List.mem_append.2 (.inl hc)
  · exact List.mem_append.2 (.inr hc)
theorem Sh.one (h : Sh g nx ch m) {f f' : Nat} {c c' : Lrw} (hc : c ∈ ch f) (hc' : c' ∈ ch f') (e : c.r = c'.r) : c = c' := inj_nd h.nd c (h.in2 hc) c' (h.in2 hc') e
theorem nd_len : ∀ (k : Nat) (l : List Nat), l.Nodup → (∀ x ∈ l, x < k) → l.length ≤ k := by
  intro k
  induction k with
  | zero =>
    intro l _ h
    cases l with
    | nil => exact Nat.le_refl _
    | cons a l => exact absurd (h a (by simp)) (by omega)
  | succ k ih =>
    intro l hd h
    by_cases hk : k ∈ l
    · have := ih (l.erase k) (hd.erase k) fun x hx => by
        have hx' := (hd.mem_erase_iff).1 hx
        have := h x hx'.2
        have := hx'.1
        omega
      rw [List.length_erase_of_mem hk] at this
      omega
    · have := ih l hd fun x hx => by
        have := h x hx
        have : x ≠ k := fun e => hk (e ▸ hx)
        omega
      omega
/-- How many were laid. -/
def cnt (ch : Nat → List Lrw) : Nat := (ch 0).length + (ch 1).length
theorem Sh.cnt (h : Sh g nx ch m) : cnt ch ≤ 35 := by
  have hd := h.nd
  have h2 : (((ch 0 ++ ch 1).map (·.r)).map (· - 5)).Nodup := by
    have key : ∀ l : List Nat, l.Nodup → (∀ x ∈ l, 5 ≤ x) → (l.map (· - 5)).Nodup := by
      intro l
      induction l with
      | nil => intro _ _; simp
      | cons a l ih =>
        intro hd h5
        simp only [List.nodup_cons, List.map_cons, List.mem_map, not_exists, not_and] at hd ⊢
        refine ⟨fun x hx e => ?_, ih hd.2 fun x hx => h5 x (by simp [hx])⟩
        have := h5 a (by simp)
        have := h5 x (by simp [hx])
        have : x = a := by omega
        exact hd.1 (this ▸ hx)
    refine key _ hd fun x hx => ?_
    obtain ⟨c, hc, rfl⟩ := List.mem_map.1 hx
    rcases List.mem_append.1 hc with q | q
    · exact (h.rw 0 c q).2.1.1
    · exact (h.rw 1 c q).2.1.1
  have := nd_len 35 _ h2 fun x hx => by
    obtain ⟨y, hy, rfl⟩ := List.mem_map.1 hx
    obtain ⟨c, hc, rfl⟩ := List.mem_map.1 hy
    have hn := h.hnx
    rcases List.mem_append.1 hc with q | q
    · have := (h.rw 0 c q).2.1; omega
    · have := (h.rw 1 c q).2.1; omega
  simpa [Go.Proofs.YtnegdabcjnhpdaaDoor.cnt] using this
theorem Ef.cnt_le (e : Ef g nx ch m g' nx' ch' m' o) : cnt ch ≤ cnt ch' := by
  obtain ⟨n, h, _⟩ := e.app 0
  obtain ⟨n', h', _⟩ := e.app 1
  unfold cnt
  rw [h, h']
  simp only [List.length_append]
  omega
/-- Only the touches and the time have gone on. -/
theorem Sh.quiet (h : Sh g nx ch m) {T : Int} (hT : g.T ≤ T) (hm : m ≤ m') : Sh { g with T := T } nx ch m' :=
  ⟨h.len, h.hnx, by have := h.m0; omega, ⟨h.clk.1, by have := h.clk.2; show ((g.X.getD 0 0 : Nat) : Int) ≤ T + 1; omega⟩, h.t1, fun v t x => by have := h.t2 v t x; exact ⟨this.1, by omega⟩, h.b0, h.link, fun f c hc => by
    obtain ⟨a, b, c', d⟩ := h.rw f c hc
    exact ⟨a, b, by omega, d⟩, h.nd, h.ord, fun f c hc => by
    rcases h.st f c hc with a | ⟨s, b, x, y, z⟩
    · exact .inl a
    · exact .inr ⟨s, b, x, y, z.mono hm⟩, h.prv, h.ex, h.hd⟩
theorem Ef.quiet (hm : m ≤ m') (T : Int) (o : Option Nat) : Ef g nx ch m { g with T := T } nx ch m' o :=
  ⟨hm, Nat.le_refl _, fun f => ⟨[], rfl, fun c h => by cases h⟩, fun _ _ _ h => h, fun _ _ h => h.mono hm, fun _ _ h => h, Nat.le_refl _, fun _ _ _ _ h => ⟨rfl, rfl, h⟩, fun _ _ _ h => h⟩
theorem upd_eq (f : Int → Option Int) (k v : Int) : upd f k v k = some v := by unfold upd; rw [if_pos rfl]
theorem upd_ne {f : Int → Option Int} {k v x : Int} (h : x ≠ k) : upd f k v x = f x := by unfold upd; rw [if_neg h]
/-- A record is stamped. -/
def stamped (g : Gs) (r s : Nat) (p : Int) : Gs := ⟨g.X.set (KC.bd r 1) s, g.T + 1, { g.k with born := upd g.k.born r p }⟩
theorem Sh.stamp (h : Sh g nx ch m) {f : Nat} {c : Lrw} (hc : c ∈ ch f) {s : Nat} {p : Int} (hz : g.X.getD (KC.bd c.r 1) 0 = 0) (hck : Ck g m s p) (hl : c.l < p) (hm : m ≤ m') :
    Sh (stamped g c.r s p) nx ch m' ∧ (∀ o, Ef g nx ch m (stamped g c.r s p) nx ch m' o) ∧ Stm (stamped g c.r s p) c.r s p := by
  have h5 := (h.rw f c hc).2.1
  have hn := h.hnx
  have hlen := h.len
  have hF : KC.bd c.r 1 < g.X.length := by rw [hlen, KC_bd]; omega
  have same : ∀ j, j ≠ KC.bd c.r 1 → (stamped g c.r s p).X.getD j 0 = g.X.getD j 0 := fun j hj => by
    show (g.X.set (KC.bd c.r 1) s).getD j 0 = _; exact getD_set_ne' hj
  have s0 : s ≠ 0 := by have := hck.1; omega
  have keepS : ∀ r s' b, Stm g r s' b → Stm (stamped g c.r s p) r s' b := fun r s' b hs => by
    have hne : r ≠ c.r := fun e => by obtain ⟨_, a, b, _⟩ := hs; rw [e, hz] at a; exact b a.symm
    refine ⟨hs.1, by rw [same _ (by rw [KC_bd, KC_bd]; omega)]; exact hs.2.1, hs.2.2.1, ?_⟩
    show upd g.k.born c.r p r = _
    rw [upd_ne (by omega)]; exact hs.2.2.2
  have keepC : ∀ s' p', Ck g m s' p' → Ck (stamped g c.r s p) m' s' p' := fun s' p' x => by
    obtain ⟨x1, x2, x3, x4, x5⟩ := x
    exact ⟨x1, by rw [same 0 (by rw [KC_bd]; omega)]; exact x2, x3, by omega, x5⟩
  have hst : Stm (stamped g c.r s p) c.r s p := ⟨h5.1, by show (g.X.set (KC.bd c.r 1) s).getD _ 0 = s; exact getD_set_eq hF, s0, by show upd g.k.born c.r p c.r = _; exact upd_eq _ _ _⟩
  refine ⟨⟨by show (g.X.set _ _).length = _; rw [List.length_set]; exact hlen, hn, by have := h.m0; omega, by rw [same 0 (by rw [KC_bd]; omega)]; exact ⟨h.clk.1, by have := h.clk.2; show _ ≤ g.T + 1 + 1; omega⟩, ?_, ?_, ?_, fun f' hf' => ?_, fun f' c' hc' => ?_, h.nd, fun f' n c' t e d hd => ?_, fun f' c' hc' => ?_, fun r h5' h4' ho => ?_, h.ex, fun s' h5' h4' => ?_⟩, fun o => ⟨hm, Nat.le_refl _, fun f => ⟨[], rfl, fun c h => by cases h⟩, keepS, keepC, fun _ _ x => x, by rw [same 0 (by rw [KC_bd]; omega)]; exact Nat.le_refl _, fun r h5' hr ho hu => ⟨same _ (by rw [KC_bd, KC_bd]; omega), same _ (by rw [KC_bd, KC_bd]; omega), hu⟩, fun s' h5' h4' x => by rw [same _ (by rw [KC_bd, KC_hd]; omega)]; exact x⟩, hst⟩
  · intro v h1 h2; rw [same 0 (by rw [KC_bd]; omega)] at h2; exact h.t1 v h1 h2
  · intro v t x; have := h.t2 v t x; rw [same 0 (by rw [KC_bd]; omega)]; omega
  · show upd g.k.born c.r p (-1) = none
    rw [upd_ne (by omega)]; exact h.b0
  · rw [same _ (by rw [KC_bd, KC_bd]; omega)]
    exact (h.link f' hf').set fun c' _ => by rw [KC_bd, KC_bd]; omega
  · obtain ⟨a, b, c2, d, e⟩ := h.rw f' c' hc'
    exact ⟨a, b, by omega, by rw [same _ (by rw [KC_bd, KC_bd]; omega)]; exact d, e⟩
  · obtain ⟨s', b', x, y⟩ := h.ord f' n c' t e d hd
    exact ⟨s', b', keepS _ _ _ x, y⟩
  · by_cases e : c'.r = c.r
    · obtain rfl := h.one hc' hc e
      exact .inr ⟨s, p, hst, hl, keepC _ _ hck⟩
    · rcases h.st f' c' hc' with ⟨a, b⟩ | ⟨s', b', x, y, z⟩
      · refine .inl ⟨by rw [same _ (by rw [KC_bd, KC_bd]; omega)]; exact a, ?_⟩
        show upd g.k.born c.r p c'.r = none
        rw [upd_ne (by omega)]; exact b
      · exact .inr ⟨s', b', keepS _ _ _ x, y, keepC _ _ z⟩
  · have hne : r ≠ c.r := fun e => ho f c hc e.symm
    obtain ⟨a, b⟩ := h.prv r h5' h4' ho
    refine ⟨by rw [same _ (by rw [KC_bd, KC_bd]; omega)]; exact a, ?_⟩
    show upd g.k.born c.r p r = none
    rw [upd_ne (by omega)]; exact b
  · rw [same _ (by rw [KC_bd, KC_hd]; omega)]; exact h.hd s' h5' h4'
end
end Go.Proofs.YtnegdabcjnhpdaaDoor
/- Whatever hands do: the clock is turned, a record is laid, words are stored: no world in sight. -/
namespace Go.Proofs.YtnegdabcjnhpdaaDoor
open Go.RowKit
section
variable {g g' : Gs} {nx nx' : Nat} {ch ch' : Nat → List Lrw} {m m' : Int} {o : Option Nat}
/-- The clock is turned. -/
def turnedG (g : Gs) : Gs := ⟨g.X.set 0 (g.X.getD 0 0 + 1), g.T + 1, { g.k with turned := upd g.k.turned (g.X.getD 0 0 : Nat) g.k.now }⟩
theorem Sh.turn (h : Sh g nx ch m) (hm : m < g.k.now) :
    Sh (turnedG g) nx ch g.k.now ∧ (∀ o, Ef g nx ch m (turnedG g) nx ch g.k.now o) := by
  have hlen := h.len
  have hm0 := h.m0
  have same : ∀ j, j ≠ 0 → (turnedG g).X.getD j 0 = g.X.getD j 0 := fun j hj => by
    show (g.X.set 0 _).getD j 0 = _; exact getD_set_ne' hj
  have new : (turnedG g).X.getD 0 0 = g.X.getD 0 0 + 1 := by
    show (g.X.set 0 _).getD 0 0 = _; exact getD_set_eq (by omega)
  have keepS : ∀ r s' b, Stm g r s' b → Stm (turnedG g) r s' b := fun r s' b hs => ⟨hs.1, by rw [same _ (by rw [KC_bd]; omega)]; exact hs.2.1, hs.2.2⟩
  have old : ∀ (v : Nat) (t : Int), g.k.turned v = some t → (turnedG g).k.turned v = some t := fun v t x => by
    have := (h.t2 v t x).1
    show upd g.k.turned (g.X.getD 0 0 : Nat) g.k.now v = _
    rw [upd_ne (by omega)]; exact x
  have cases : ∀ (v : Nat) (t : Int), (turnedG g).k.turned v = some t → (v = g.X.getD 0 0 ∧ t = g.k.now) ∨ g.k.turned v = some t := fun v t x => by
    replace x : upd g.k.turned (g.X.getD 0 0 : Nat) g.k.now v = some t := x
    by_cases e : (v : Int) = (g.X.getD 0 0 : Nat)
    · rw [e, upd_eq] at x
      cases x
      exact .inl ⟨by omega, rfl⟩
    · rw [upd_ne e] at x
      exact .inr x
  have keepC : ∀ s' p', Ck g m s' p' → Ck (turnedG g) g.k.now s' p' := fun s' p' ⟨x1, x2, x3, x4, x5⟩ => by
    refine ⟨x1, by rw [new]; omega, x3, by omega, fun v t x => ?_⟩
    rcases cases v t x with ⟨e1, e2⟩ | e
    · exact .inl ⟨by omega, by omega⟩
    · exact x5 v t e
  refine ⟨⟨by show (g.X.set _ _).length = _; rw [List.length_set]; exact hlen, h.hnx, by omega, by rw [new]; exact ⟨by omega, by have := h.clk.2; show _ ≤ g.T + 1 + 1; omega⟩, fun v h1 h2 => ?_, fun v t x => ?_, h.b0, fun f' hf' => ?_, fun f' c' hc' => ?_, h.nd, fun f' n c' t e d hd => ?_, fun f' c' hc' => ?_, fun r h5' h4' ho => ?_, h.ex, fun s' h5' h4' => ?_⟩, fun o => ⟨by omega, Nat.le_refl _, fun f => ⟨[], rfl, fun c h => by cases h⟩, keepS, keepC, old, by rw [new]; omega, fun r h5' hr ho hu => ⟨same _ (by rw [KC_bd]; omega), same _ (by rw [KC_bd]; omega), hu⟩, fun s' h5' h4' x => by rw [same _ (by rw [KC_hd]; omega)]; exact x⟩⟩
  · rw [new] at h2
    by_cases e : v = g.X.getD 0 0
    · exact ⟨g.k.now, by show upd g.k.turned (g.X.getD 0 0 : Nat) g.k.now v = _; rw [e, upd_eq]⟩
    · obtain ⟨t, ht⟩ := h.t1 v h1 (by omega)
      exact ⟨t, old v t ht⟩
  · rw [new]
    rcases cases v t x with ⟨e1, e2⟩ | e
    · omega
    · have := h.t2 v t e; omega
  · rw [same _ (by rw [KC_bd]; omega)]
    exact (h.link f' hf').set fun c' _ => by rw [KC_bd]; omega
  · obtain ⟨a, b, c2, d, e⟩ := h.rw f' c' hc'
    exact ⟨a, b, by omega, by rw [same _ (by rw [KC_bd]; omega)]; exact d, e⟩
  · obtain ⟨s', b', x, y⟩ := h.ord f' n c' t e d hd
    exact ⟨s', b', keepS _ _ _ x, y⟩
  · rcases h.st f' c' hc' with ⟨a, b⟩ | ⟨s', b', x, y, z⟩
    · exact .inl ⟨by rw [same _ (by rw [KC_bd]; omega)]; exact a, b⟩
    · exact .inr ⟨s', b', keepS _ _ _ x, y, keepC _ _ z⟩
  · obtain ⟨a, b⟩ := h.prv r h5' h4' ho
    exact ⟨by rw [same _ (by rw [KC_bd]; omega)]; exact a, b⟩
  · rw [same _ (by rw [KC_hd]; omega)]; exact h.hd s' h5' h4'
/-- A word is stored that no record that was laid has, and no field. -/
theorem Sh.store (h : Sh g nx ch m) {p v : Nat} {T : Int} (hT : g.T ≤ T) (hm : m ≤ m') (h0 : p ≠ 0) (hb : ∀ i, i < 2 → p ≠ KC.bd 0 i) (h1 : ∀ r, p ≠ KC.bd r 1) (h2 : ∀ f c, c ∈ ch f → p ≠ KC.bd c.r 0 ∧ p ≠ KC.bd c.r 2)
    (hh : ∀ s, 5 ≤ s → s < 40 → p = KC.hd s → v = H1) (hn : nx ≤ nx' ∧ nx' ≤ 40) : Sh { g with X := g.X.set p v, T := T } nx' ch m' := by
  have hlen := h.len
  have same : ∀ j, j ≠ p → (g.X.set p v).getD j 0 = g.X.getD j 0 := fun j hj => getD_set_ne' hj
  have keepS : ∀ r s' b, Stm g r s' b → Stm { g with X := g.X.set p v, T := T } r s' b := fun r s' b hs => ⟨hs.1, by show (g.X.set p v).getD _ 0 = _; rw [same _ (Ne.symm (h1 r))]; exact hs.2.1, hs.2.2⟩
  have keepC : ∀ s' p', Ck g m s' p' → Ck { g with X := g.X.set p v, T := T } m' s' p' := fun s' p' ⟨x1, x2, x3, x4, x5⟩ => ⟨x1, by show _ ≤ (g.X.set p v).getD 0 0; rw [same _ (Ne.symm h0)]; exact x2, x3, by omega, x5⟩
  have hnx := h.hnx
  refine ⟨by show (g.X.set _ _).length = _; rw [List.length_set]; exact hlen, by omega, by have := h.m0; omega, ?_, fun v' h1 h2 => ?_, fun v' t x => ?_, h.b0, fun f' hf' => ?_, fun f' c' hc' => ?_, h.nd, fun f' n c' t e d hd => ?_, fun f' c' hc' => ?_, fun r h5' h4' ho => ?_, h.ex, fun s' h5' h4' => ?_⟩
  · show 1 ≤ (g.X.set p v).getD 0 0 ∧ (((g.X.set p v).getD 0 0 : Nat) : Int) ≤ T + 1
    rw [same 0 (Ne.symm h0)]
    have := h.clk
    omega
  · replace h2 : v' < (g.X.set p v).getD 0 0 := h2
    rw [same 0 (Ne.symm h0)] at h2; exact h.t1 v' h1 h2
  · show v' < (g.X.set p v).getD 0 0 ∧ _
    rw [same 0 (Ne.symm h0)]
    have := h.t2 v' t x
    exact ⟨this.1, by omega⟩
  · show Lk (g.X.set p v) (ch f') ((g.X.set p v).getD (KC.bd 0 f') 0)
    rw [same _ (Ne.symm (hb f' hf'))]
    exact (h.link f' hf').set fun c' hc' => (h2 f' c' hc').2
  · obtain ⟨a, b, c2, d, e⟩ := h.rw f' c' hc'
    exact ⟨a, by omega, by omega, by show nm KC ((g.X.set p v).getD (KC.bd c'.r 0) 0) = _; rw [same _ (Ne.symm (h2 f' c' hc').1)]; exact d, e⟩
  · obtain ⟨s', b', x, y⟩ := h.ord f' n c' t e d hd
    exact ⟨s', b', keepS _ _ _ x, y⟩
  · rcases h.st f' c' hc' with ⟨a, b⟩ | ⟨s', b', x, y, z⟩
    · exact .inl ⟨by show (g.X.set p v).getD _ 0 = _; rw [same _ (Ne.symm (h1 c'.r))]; exact a, b⟩
    · exact .inr ⟨s', b', keepS _ _ _ x, y, keepC _ _ z⟩
  · obtain ⟨a, b⟩ := h.prv r h5' h4' ho
    exact ⟨by show (g.X.set p v).getD _ 0 = _; rw [same _ (Ne.symm (h1 r))]; exact a, b⟩
  · show (g.X.set p v).getD (KC.hd s') 0 = H0 ∨ (g.X.set p v).getD (KC.hd s') 0 = H1
    by_cases e : KC.hd s' = p
    · right
      rw [e, getD_set_eq (by rw [← e, hlen, KC_hd]; omega)]
      exact hh s' h5' h4' e.symm
    · rw [same _ e]; exact h.hd s' h5' h4'
theorem Ef.store {p v : Nat} {T : Int} (hlen : g.X.length = 208) (hm : m ≤ m') (h0 : p ≠ 0) (h1 : ∀ r, p ≠ KC.bd r 1) (hp : ∀ r, 5 ≤ r → r < nx → o ≠ some r → Out ch r → p ≠ KC.bd r 0 ∧ p ≠ KC.bd r 2)
    (hh : ∀ s, 5 ≤ s → s < 40 → p = KC.hd s → v = H1) (hn : nx ≤ nx') : Ef g nx ch m { g with X := g.X.set p v, T := T } nx' ch m' o := by
  have same : ∀ j, j ≠ p → (g.X.set p v).getD j 0 = g.X.getD j 0 := fun j hj => getD_set_ne' hj
  refine ⟨hm, hn, fun f => ⟨[], rfl, fun c h => by cases h⟩, fun r s' b hs => ⟨hs.1, by show (g.X.set p v).getD _ 0 = _; rw [same _ (Ne.symm (h1 r))]; exact hs.2.1, hs.2.2⟩, fun s' p' ⟨x1, x2, x3, x4, x5⟩ => ⟨x1, by show _ ≤ (g.X.set p v).getD 0 0; rw [same _ (Ne.symm h0)]; exact x2, x3, by omega, x5⟩, fun _ _ x => x, by show _ ≤ (g.X.set p v).getD 0 0; rw [same _ (Ne.symm h0)]; exact Nat.le_refl _, fun r h5 hr ho hu => ?_, fun s h5 h4 x => ?_⟩
  · obtain ⟨a, b⟩ := hp r h5 hr ho hu
    exact ⟨same _ (Ne.symm a), same _ (Ne.symm b), hu⟩
  · show (g.X.set p v).getD (KC.hd s) 0 = H1
    by_cases e : KC.hd s = p
    · rw [e, getD_set_eq (by rw [← e, hlen, KC_hd]; omega)]
      exact hh s h5 h4 e.symm
    · rw [same _ e]; exact x
/-- A record is laid. -/
def laidC (ch : Nat → List Lrw) (f : Nat) (c : Lrw) : Nat → List Lrw := fun x => if x = f then c :: ch f else ch x
theorem laidC_eq (ch : Nat → List Lrw) (f : Nat) (c : Lrw) : laidC ch f c f = c :: ch f := by unfold laidC; rw [if_pos rfl]
theorem laidC_ne {ch : Nat → List Lrw} {f x : Nat} {c : Lrw} (h : x ≠ f) : laidC ch f c x = ch x := by unfold laidC; rw [if_neg h]
theorem laidC_cnt {ch : Nat → List Lrw} {f : Nat} {c : Lrw} (hf : f < 2) : cnt (laidC ch f c) = cnt ch + 1 := by
  unfold cnt
  rcases (show f = 0 ∨ f = 1 by omega) with rfl | rfl
  · rw [laidC_eq, laidC_ne (by omega)]; simp; omega
  · rw [laidC_eq, laidC_ne (by omega)]; simp; omega
theorem mem_laidC {ch : Nat → List Lrw} {f x : Nat} {c d : Lrw} (h : d ∈ laidC ch f c x) : (x = f ∧ d = c) ∨ d ∈ ch x := by
  by_cases e : x = f
  · subst e
    rw [laidC_eq] at h
    rcases List.mem_cons.1 h with rfl | h
    · exact .inl ⟨rfl, rfl⟩
    · exact .inr h
  · rw [laidC_ne e] at h; exact .inr h
theorem Sh.lay (h : Sh g nx ch m) {f r : Nat} {a : Ac} (hf : f < 2) (hr : 5 ≤ r ∧ r < nx) (ho : Out ch r) (hv : nm KC (g.X.getD (KC.bd r 0) 0) = sl a.val) (ha : a.fld = (f : Int)) (hk : a.kind = 1 ∨ a.kind = 2)
    (hw : g.X.getD (KC.bd r 2) 0 = g.X.getD (KC.bd 0 f) 0) (hs : ∀ c t, ch f = c :: t → ∃ s b, Stm g c.r s b) (he : a.kind = 2 → tv (ch f) = sl a.expect) (hm : m < g.k.now) :
    Sh { g with X := g.X.set (KC.bd 0 f) (r + 1), T := g.T + 1 } nx (laidC ch f ⟨r, g.k.now, a⟩) g.k.now ∧ Ef g nx ch m { g with X := g.X.set (KC.bd 0 f) (r + 1), T := g.T + 1 } nx (laidC ch f ⟨r, g.k.now, a⟩) g.k.now (some r) := by
  have hlen := h.len
  have hm0 := h.m0
  have hnx := h.hnx
  have same : ∀ j, j ≠ KC.bd 0 f → (g.X.set (KC.bd 0 f) (r + 1)).getD j 0 = g.X.getD j 0 := fun j hj => getD_set_ne' hj
  have keepS : ∀ r' s' b, Stm g r' s' b → Stm { g with X := g.X.set (KC.bd 0 f) (r + 1), T := g.T + 1 } r' s' b := fun r' s' b hs => by
    have h5 := hs.1
    exact ⟨h5, by show (g.X.set _ _).getD _ 0 = _; rw [same _ (by rw [KC_bd, KC_bd]; omega)]; exact hs.2.1, hs.2.2⟩
  have keepC : ∀ s' p', Ck g m s' p' → Ck { g with X := g.X.set (KC.bd 0 f) (r + 1), T := g.T + 1 } g.k.now s' p' := fun s' p' ⟨x1, x2, x3, x4, x5⟩ => ⟨x1, by show _ ≤ (g.X.set _ _).getD 0 0; rw [same _ (by rw [KC_bd]; omega)]; exact x2, x3, by omega, x5⟩
  have hc0 : (g.X.set (KC.bd 0 f) (r + 1)).getD 0 0 = g.X.getD 0 0 := same _ (by rw [KC_bd]; omega)
  refine ⟨⟨by show (g.X.set _ _).length = _; rw [List.length_set]; exact hlen, hnx, by omega, ?_, fun v' h1 h2 => ?_, fun v' t x => ?_, h.b0, fun f' hf' => ?_, fun f' c' hc' => ?_, ?_, fun f' n c' t e d hd => ?_, fun f' c' hc' => ?_, fun r' h5' h4' ho' => ?_, fun f' n c' t e hk' => ?_, fun s' h5' h4' => ?_⟩, ⟨by omega, Nat.le_refl _, fun f' => ?_, keepS, keepC, fun _ _ x => x, by show _ ≤ (g.X.set _ _).getD 0 0; rw [hc0]; exact Nat.le_refl _, fun r' h5' hr' hne hu => ⟨same _ (by rw [KC_bd, KC_bd]; omega), same _ (by rw [KC_bd, KC_bd]; omega), fun f' c' hc' => ?_⟩, fun s' h5' h4' x => by show (g.X.set _ _).getD _ 0 = _; rw [same _ (by rw [KC_bd, KC_hd]; omega)]; exact x⟩⟩
  · show 1 ≤ (g.X.set _ _).getD 0 0 ∧ (((g.X.set _ _).getD 0 0 : Nat) : Int) ≤ g.T + 1 + 1
    rw [hc0]
    have := h.clk
    omega
  · replace h2 : v' < (g.X.set _ _).getD 0 0 := h2
    rw [hc0] at h2; exact h.t1 v' h1 h2
  · show v' < (g.X.set _ _).getD 0 0 ∧ _
    rw [hc0]
    have := h.t2 v' t x
    exact ⟨this.1, by omega⟩
  · show Lk (g.X.set (KC.bd 0 f) (r + 1)) (laidC ch f ⟨r, g.k.now, a⟩ f') ((g.X.set (KC.bd 0 f) (r + 1)).getD (KC.bd 0 f') 0)
    have h5 : ∀ f'' c, c ∈ ch f'' → KC.bd 0 f ≠ KC.bd c.r 2 := fun f'' c hc => by have := (h.rw f'' c hc).2.1; rw [KC_bd, KC_bd]; omega
    by_cases e : f' = f
    · subst e
      rw [laidC_eq, getD_set_eq (by rw [hlen, KC_bd]; omega)]
      refine ⟨rfl, ?_⟩
      show Lk (g.X.set _ _) (ch f') ((g.X.set (KC.bd 0 f') (r + 1)).getD (KC.bd r 2) 0)
      rw [same _ (by rw [KC_bd, KC_bd]; omega), hw]
      exact (h.link f' hf').set (h5 f')
    · rw [laidC_ne e, same _ (by rw [KC_bd, KC_bd]; omega)]
      exact (h.link f' hf').set (h5 f')
  · rcases mem_laidC hc' with ⟨rfl, rfl⟩ | hc'
    · exact ⟨hf, hr, by show 0 ≤ g.k.now ∧ g.k.now ≤ g.k.now; omega, by show nm KC ((g.X.set _ _).getD (KC.bd r 0) 0) = _; rw [same _ (by rw [KC_bd, KC_bd]; omega)]; exact hv, ha, hk⟩
    · obtain ⟨a', b, c2, d, e⟩ := h.rw f' c' hc'
      exact ⟨a', b, by omega, by show nm KC ((g.X.set _ _).getD (KC.bd c'.r 0) 0) = _; rw [same _ (by rw [KC_bd, KC_bd]; omega)]; exact d, e⟩
  · have hnot : r ∉ (ch 0 ++ ch 1).map (·.r) := fun hx => by
      obtain ⟨c, hc, e⟩ := List.mem_map.1 hx
      rcases List.mem_append.1 hc with q | q
      · exact ho 0 c q e
      · exact ho 1 c q e
    rcases (show f = 0 ∨ f = 1 by omega) with rfl | rfl
    · rw [laidC_eq, laidC_ne (by omega)]
      simp only [List.cons_append, List.map_cons, List.nodup_cons]
      exact ⟨hnot, h.nd⟩
    · rw [laidC_eq, laidC_ne (by omega)]
      have p : (ch 0 ++ ⟨r, g.k.now, a⟩ :: ch 1).Perm (⟨r, g.k.now, a⟩ :: (ch 0 ++ ch 1)) := List.perm_middle
      refine (p.map (·.r)).nodup_iff.2 ?_
      simp only [List.map_cons, List.nodup_cons]
      exact ⟨hnot, h.nd⟩
  · by_cases ef : f' = f
    · subst ef
      rw [laidC_eq] at e
      cases n with
      | nil => cases hd
      | cons d' n' =>
        simp only [List.cons_append, List.cons.injEq] at e
        obtain ⟨rfl, e⟩ := e
        have stc : ∃ s b, Stm g c'.r s b ∧ b ≤ m := by
          have hin : c' ∈ ch f' := by rw [e]; simp
          have : ∃ s b, Stm g c'.r s b := by
            cases n' with
            | nil => exact hs c' t (by rw [e]; rfl)
            | cons d2 n2 => obtain ⟨s, b, x, _⟩ := h.ord f' (d2 :: n2) c' t e d2 (by simp); exact ⟨s, b, x⟩
          obtain ⟨s, b, x⟩ := this
          rcases h.st f' c' hin with ⟨q, _⟩ | ⟨s', b', x', _, z⟩
          · exact absurd (x.2.1.symm.trans q) x.2.2.1
          · exact ⟨s', b', x', z.2.2.2.1⟩
        rcases List.mem_cons.1 hd with rfl | hd
        · obtain ⟨s, b, x, y⟩ := stc
          exact ⟨s, b, keepS _ _ _ x, by show b < g.k.now; omega⟩
        · obtain ⟨s', b', x, y⟩ := h.ord f' n' c' t e d hd
          exact ⟨s', b', keepS _ _ _ x, y⟩
    · rw [laidC_ne ef] at e
      obtain ⟨s', b', x, y⟩ := h.ord f' n c' t e d hd
      exact ⟨s', b', keepS _ _ _ x, y⟩
  · rcases mem_laidC hc' with ⟨rfl, rfl⟩ | hc'
    · obtain ⟨q1, q2⟩ := h.prv r hr.1 (by omega) ho
      exact .inl ⟨by show (g.X.set _ _).getD (KC.bd r 1) 0 = 0; rw [same _ (by rw [KC_bd, KC_bd]; omega)]; exact q1, q2⟩
    · have h5 := (h.rw f' c' hc').2.1
      rcases h.st f' c' hc' with ⟨a', b⟩ | ⟨s', b', x, y, z⟩
      · exact .inl ⟨by show (g.X.set _ _).getD _ 0 = _; rw [same _ (by rw [KC_bd, KC_bd]; omega)]; exact a', b⟩
      · exact .inr ⟨s', b', keepS _ _ _ x, y, keepC _ _ z⟩
  · have ho2 : Out ch r' := fun f'' c'' hc'' => ho' f'' c'' (by
      by_cases e : f'' = f
      · subst e; rw [laidC_eq]; simp [hc'']
      · rw [laidC_ne e]; exact hc'')
    obtain ⟨q1, q2⟩ := h.prv r' h5' h4' ho2
    exact ⟨by show (g.X.set _ _).getD _ 0 = _; rw [same _ (by rw [KC_bd, KC_bd]; omega)]; exact q1, q2⟩
  · by_cases ef : f' = f
    · subst ef
      rw [laidC_eq] at e
      cases n with
      | nil =>
        simp only [List.nil_append, List.cons.injEq] at e
        obtain ⟨rfl, rfl⟩ := e
        exact he hk'
      | cons d' n' =>
        simp only [List.cons_append, List.cons.injEq] at e
        exact h.ex f' n' c' t e.2 hk'
    · rw [laidC_ne ef] at e
      exact h.ex f' n c' t e hk'
  · show (g.X.set _ _).getD (KC.hd s') 0 = H0 ∨ (g.X.set _ _).getD (KC.hd s') 0 = H1
    rw [same _ (by rw [KC_bd, KC_hd]; omega)]; exact h.hd s' h5' h4'
  · by_cases ef : f' = f
    · subst ef
      exact ⟨[⟨r, g.k.now, a⟩], by rw [laidC_eq]; rfl, fun c hc => by simp at hc; subst hc; exact hm⟩
    · exact ⟨[], by rw [laidC_ne ef]; rfl, fun c hc => by cases hc⟩
  · rcases mem_laidC hc' with ⟨rfl, rfl⟩ | hc'
    · exact fun e => hne (by rw [← e])
    · exact hu f' c' hc'
end
end Go.Proofs.YtnegdabcjnhpdaaDoor
/- Machines under way, whatever others do: a Stamp, the newest record, a Read, a Turn, a See: no world in sight. -/
namespace Go.Proofs.YtnegdabcjnhpdaaDoor
open Go.RowKit
section
variable {g g' : Gs} {nx nx' : Nat} {ch ch' : Nat → List Lrw} {m m' : Int} {o : Option Nat} {f k : Nat}
/-- When a field was loaded, and what it named then. -/
def Fnd (ch : Nat → List Lrw) (m : Int) (f : Nat) (rc since : Int) : Prop := 0 ≤ since ∧ since ≤ m ∧ ((rc = -1 ∧ ∀ c ∈ ch f, since < c.l) ∨ ∃ n c t, ch f = n ++ c :: t ∧ rc = (c.r : Int) ∧ c.l < since ∧ ∀ d ∈ n, since < d.l)
theorem Fnd.ef {rc since : Int} (h : Fnd ch m f rc since) (e : Ef g nx ch m g' nx' ch' m' o) : Fnd ch' m' f rc since := by
  obtain ⟨n', e1, e2⟩ := e.app f
  have h1 := h.2.1
  have h2 := e.hm
  refine ⟨h.1, by omega, ?_⟩
  rcases h.2.2 with ⟨a, b⟩ | ⟨n, c, t, a, b, c', d⟩
  · refine .inl ⟨a, fun x hx => ?_⟩
    rw [e1] at hx
    rcases List.mem_append.1 hx with q | q
    · have := e2 x q; omega
    · exact b x q
  · refine .inr ⟨n' ++ n, c, t, by rw [e1, a, List.append_assoc], b, c', fun x hx => ?_⟩
    rcases List.mem_append.1 hx with q | q
    · have := e2 x q; omega
    · exact d x q
/-- A Stamp under way, with so many steps left at most. -/
def Sk (g : Gs) (ch : Nat → List Lrw) (m : Int) (s : Sm) (r k : Nat) : Prop := s.rc = (r : Int) ∧ s.place = KC.bd r 1 ∧ (∃ f c, c ∈ ch f ∧ c.r = r ∧ (s.pc = 2 → c.l < s.point)) ∧
  ((s.pc = 0 ∧ 3 ≤ k) ∨ (s.pc = 1 ∧ 2 ≤ k) ∨ (s.pc = 2 ∧ 1 ≤ k ∧ Ck g m s.clock s.point))
theorem Ef.mem (e : Ef g nx ch m g' nx' ch' m' o) {c : Lrw} (h : c ∈ ch f) : c ∈ ch' f := by
  obtain ⟨n', e1, _⟩ := e.app f
  rw [e1]
  exact List.mem_append.2 (.inr h)
theorem Sk.ef {s : Sm} {r : Nat} (h : Sk g ch m s r k) (e : Ef g nx ch m g' nx' ch' m' o) : Sk g' ch' m' s r k := by
  obtain ⟨h1, h2, ⟨f, c, h3, h4⟩, h5⟩ := h
  refine ⟨h1, h2, ⟨f, c, e.mem h3, h4⟩, ?_⟩
  rcases h5 with a | a | ⟨a, b, c⟩
  · exact .inl a
  · exact .inr (.inl a)
  · exact .inr (.inr ⟨a, b, e.kC _ _ c⟩)
theorem Sk.le {s : Sm} {r k' : Nat} (h : Sk g ch m s r k) (hk : k ≤ k') : Sk g ch m s r k' := by
  obtain ⟨h1, h2, h3, h5⟩ := h
  refine ⟨h1, h2, h3, ?_⟩
  rcases h5 with a | a | ⟨a, b, c⟩
  · exact .inl ⟨a.1, by omega⟩
  · exact .inr (.inl ⟨a.1, by omega⟩)
  · exact .inr (.inr ⟨a, by omega, c⟩)
theorem Sk.pos {s : Sm} {r : Nat} (h : Sk g ch m s r k) : 1 ≤ k := by
  obtain ⟨_, _, _, h5⟩ := h
  rcases h5 with a | a | ⟨a, b, c⟩ <;> omega
theorem Sh.stm (h : Sh g nx ch m) {c : Lrw} (hc : c ∈ ch f) (hz : g.X.getD (KC.bd c.r 1) 0 ≠ 0) : ∃ s b, Stm g c.r s b := by
  rcases h.st f c hc with ⟨a, _⟩ | ⟨s, b, x, _⟩
  · exact absurd a hz
  · exact ⟨s, b, x⟩
theorem sk_step {s : Sm} {r : Nat} (h : Sh g nx ch m) (hk : Sk g ch m s r k) (hm : m < g.k.now) :
    Sh (s.step g).2 nx ch g.k.now ∧ (∀ o, Ef g nx ch m (s.step g).2 nx ch g.k.now o) ∧
      (((s.step g).1.pc = 3 ∧ ∃ s' b, Stm (s.step g).2 r s' b) ∨ ((s.step g).1.pc ≠ 3 ∧ 2 ≤ k ∧ Sk (s.step g).2 ch g.k.now (s.step g).1 r (k - 1))) := by
  have hm0 := h.m0
  have qs : Sh { g with T := g.T + 1 } nx ch g.k.now := h.quiet (by omega) (by omega)
  have qe : ∀ o, Ef g nx ch m { g with T := g.T + 1 } nx ch g.k.now o := Ef.quiet (by omega) _
  obtain ⟨h1, h2, ⟨f, c, h3, h4, h5⟩, h6⟩ := hk
  rcases h6 with ⟨p, q⟩ | ⟨p, q⟩ | ⟨p, q, ck⟩
  · by_cases z : g.X.getD s.place 0 = 0
    · have e : s.step g = ({ s with pc := 1 }, { g with T := g.T + 1 }) := by unfold Sm.step; rw [if_pos p, if_pos z]
      rw [e]
      exact ⟨qs, qe, .inr ⟨by show (1 : Int) ≠ 3; omega, by omega, h1, h2, ⟨f, c, h3, h4, fun x => by cases x⟩, .inr (.inl ⟨rfl, by omega⟩)⟩⟩
    · have e : s.step g = ({ s with pc := 3 }, { g with T := g.T + 1 }) := by unfold Sm.step; rw [if_pos p, if_neg z]
      rw [e]
      refine ⟨qs, qe, .inl ⟨rfl, ?_⟩⟩
      rw [h2, ← h4] at z
      obtain ⟨s', b, x⟩ := h.stm h3 z
      exact ⟨s', b, by rw [← h4]; exact x⟩
  · have e : s.step g = ({ s with pc := 2, clock := g.X.getD 0 0, point := g.k.now }, { g with T := g.T + 1 }) := by unfold Sm.step; rw [if_neg (by omega), if_pos p]
    rw [e]
    refine ⟨qs, qe, .inr ⟨by show (2 : Int) ≠ 3; omega, by omega, h1, h2, ⟨f, c, h3, h4, fun _ => ?_⟩, .inr (.inr ⟨rfl, by omega, h.clk.1, Nat.le_refl _, by show 0 ≤ g.k.now; omega, Int.le_refl _, fun v t x => ?_⟩)⟩⟩
    · have := (h.rw f c h3).2.2.1
      show c.l < g.k.now
      omega
    · have := h.t2 v t x
      exact .inr ⟨this.1, by show t < g.k.now; omega⟩
  · by_cases z : g.X.getD s.place 0 = 0
    · have e : s.step g = ({ s with pc := 3 }, stamped g c.r s.clock s.point) := by
        unfold Sm.step
        rw [if_neg (by omega), if_neg (by omega), if_pos p, if_pos z, h2, h1, ← h4]; rfl
      rw [e]
      rw [h2, ← h4] at z
      obtain ⟨a, b, d⟩ := h.stamp h3 z ck (h5 p) (m' := g.k.now) (by omega)
      exact ⟨a, b, .inl ⟨rfl, _, _, by rw [← h4]; exact d⟩⟩
    · have e : s.step g = ({ s with pc := 3 }, { g with T := g.T + 1 }) := by unfold Sm.step; rw [if_neg (by omega), if_neg (by omega), if_pos p, if_neg z]
      rw [e]
      refine ⟨qs, qe, .inl ⟨rfl, ?_⟩⟩
      rw [h2, ← h4] at z
      obtain ⟨s', b, x⟩ := h.stm h3 z
      exact ⟨s', b, by rw [← h4]; exact x⟩
theorem Sm.step_fld (s : Sm) (g : Gs) {r : Nat} (h : s.place = KC.bd r 1) (h5 : 5 ≤ r) (hf : f < 2) : (s.step g).2.X.getD (KC.bd 0 f) 0 = g.X.getD (KC.bd 0 f) 0 := by
  unfold Sm.step
  split
  · rfl
  split
  · rfl
  split
  · split
    · show (g.X.set s.place _).getD _ 0 = _
      rw [getD_set_ne' (by rw [h, KC_bd, KC_bd]; omega)]
    · rfl
  · rfl
/-- On the way to the newest record. -/
def Nk (g : Gs) (ch : Nat → List Lrw) (m : Int) (n : Nw) (f k : Nat) : Prop := n.field = KC.bd 0 f ∧ ((n.on = false ∧ 4 ≤ k) ∨ (n.on = true ∧ ∃ r : Nat, n.rc = (r : Int) ∧ n.word = r + 1 ∧ Fnd ch m f n.rc n.since ∧ Sk g ch m n.s r k))
/-- It is found, and has a stamp; or there is none. -/
def Nd (g : Gs) (ch : Nat → List Lrw) (m : Int) (n : Nw) (f : Nat) : Prop := n.field = KC.bd 0 f ∧ n.on = false ∧ Fnd ch m f n.rc n.since ∧ ((n.rc = -1 ∧ n.word = 0) ∨ ∃ (r s : Nat) (b : Int), n.rc = (r : Int) ∧ n.word = r + 1 ∧ Stm g r s b)
theorem Nk.ef {n : Nw} (h : Nk g ch m n f k) (e : Ef g nx ch m g' nx' ch' m' o) : Nk g' ch' m' n f k := by
  obtain ⟨h1, h2⟩ := h
  refine ⟨h1, ?_⟩
  rcases h2 with a | ⟨a, r, b, c, d, x⟩
  · exact .inl a
  · exact .inr ⟨a, r, b, c, d.ef e, x.ef e⟩
theorem Nk.pos {n : Nw} (h : Nk g ch m n f k) : 1 ≤ k := by
  obtain ⟨h1, h2⟩ := h
  rcases h2 with a | ⟨a, r, b, c, d, x⟩
  · omega
  · exact x.pos
theorem Nd.ef {n : Nw} (h : Nd g ch m n f) (e : Ef g nx ch m g' nx' ch' m' o) : Nd g' ch' m' n f := by
  obtain ⟨h1, h2, h3, h4⟩ := h
  refine ⟨h1, h2, h3.ef e, ?_⟩
  rcases h4 with a | ⟨r, s, b, c, d, x⟩
  · exact .inl a
  · exact .inr ⟨r, s, b, c, d, e.kS _ _ _ x⟩
theorem Lk.nm {X : List Nat} {l : List Lrw} {w : Nat} (h : Lk X l w) (h4 : ∀ c ∈ l, c.r < 40) : (l = [] ∧ w = 0 ∧ nm KC w = -1) ∨ ∃ c t, l = c :: t ∧ w = c.r + 1 ∧ nm KC w = (c.r : Int) := by
  cases l with
  | nil => exact .inl ⟨rfl, h, by rw [show w = 0 from h]; exact nm_zero⟩
  | cons c t => exact .inr ⟨c, t, rfl, h.1, by rw [h.1]; exact nm_word (h4 c (by simp))⟩
theorem nk_find {n : Nw} (h : Sh g nx ch m) (hk : Nk g ch m n f k) (hf : f < 2) (hm : m < g.k.now) (B : Nat) :
    Sh (n.find KC B g).2 nx ch g.k.now ∧ (∀ o, Ef g nx ch m (n.find KC B g).2 nx ch g.k.now o) ∧ (n.find KC B g).2.X.getD (KC.bd 0 f) 0 = g.X.getD (KC.bd 0 f) 0 ∧
      (n.on = false → (n.find KC B g).1.since = g.k.now ∧ (n.find KC B g).1.word = g.X.getD (KC.bd 0 f) 0) ∧ (n.on = true → (n.find KC B g).1.since = n.since ∧ (n.find KC B g).1.word = n.word) ∧
      (((n.find KC B g).1.on = false ∧ Nd (n.find KC B g).2 ch g.k.now (n.find KC B g).1 f) ∨ ((n.find KC B g).1.on = true ∧ 2 ≤ k ∧ Nk (n.find KC B g).2 ch g.k.now (n.find KC B g).1 f (k - 1))) := by
  have hm0 := h.m0
  obtain ⟨h1, h2⟩ := hk
  rcases h2 with ⟨on, h4⟩ | ⟨on, r, hr, hw, hfn, hs⟩
  · have e : n.find KC B g = ({ n with word := g.X.getD n.field 0, since := g.k.now, rc := nm KC (g.X.getD n.field 0), sb := if nm KC (g.X.getD n.field 0) = -1 then n.sb else some ⟨B, 0, none⟩, s := if nm KC (g.X.getD n.field 0) = -1 then n.s else ⟨nm KC (g.X.getD n.field 0), KC.bd (nm KC (g.X.getD n.field 0)).toNat 1, 0, 0, 0⟩, on := !decide (nm KC (g.X.getD n.field 0) = -1) }, { g with T := g.T + 1 }) := by
      unfold Nw.find
      rw [if_neg (by rw [on]; simp)]
    rw [e]
    refine ⟨h.quiet (by omega) (by omega), Ef.quiet (by omega) _, rfl, fun _ => ⟨rfl, by show g.X.getD n.field 0 = _; rw [h1]⟩, fun x => (by rw [on] at x; cases x), ?_⟩
    have hl := h.link f hf
    rw [← h1] at hl
    rcases hl.nm (fun c hc => by have := (h.rw f c hc).2.1; have := h.hnx; omega) with ⟨e1, e2, e3⟩ | ⟨c, t, e1, e2, e3⟩
    · have hon : (!decide (nm KC (g.X.getD n.field 0) = -1)) = false := by rw [decide_eq_true e3]; rfl
      refine .inl ⟨hon, h1, hon, ⟨by show 0 ≤ g.k.now; omega, Int.le_refl _, .inl ⟨e3, fun c hc => ?_⟩⟩, .inl ⟨e3, e2⟩⟩
      rw [e1] at hc; cases hc
    · have hne : ¬ nm KC (g.X.getD n.field 0) = -1 := by omega
      have hc : c ∈ ch f := by rw [e1]; simp
      have hl2 := (h.rw f c hc).2.2.1
      have hon : (!decide (nm KC (g.X.getD n.field 0) = -1)) = true := by rw [decide_eq_false hne]; rfl
      refine .inr ⟨hon, by omega, h1, .inr ⟨hon, c.r, e3, e2, ⟨by show 0 ≤ g.k.now; omega, Int.le_refl _, .inr ⟨[], c, t, e1, e3, by show c.l < g.k.now; omega, fun d hd => by cases hd⟩⟩, ?_⟩⟩
      simp only [hne, if_false]
      exact ⟨e3, by show KC.bd (nm KC (g.X.getD n.field 0)).toNat 1 = _; rw [e3]; rfl, ⟨f, c, hc, rfl, fun x => by cases x⟩, .inl ⟨rfl, by omega⟩⟩
  · have e : n.find KC B g = ({ n with s := (n.s.step g).1, on := !decide ((n.s.step g).1.pc = 3) }, (n.s.step g).2) := by
      unfold Nw.find
      rw [if_pos on]
    rw [e]
    obtain ⟨a, b, c⟩ := sk_step h hs hm
    have h5 : 5 ≤ r := by
      obtain ⟨_, _, ⟨f', c', q1, q2, _⟩, _⟩ := hs
      have := (h.rw f' c' q1).2.1
      omega
    refine ⟨a, b, Sm.step_fld _ _ hs.2.1 h5 hf, fun x => (by rw [on] at x; cases x), fun _ => ⟨rfl, rfl⟩, ?_⟩
    rcases c with ⟨p, s', b', x⟩ | ⟨p, q, x⟩
    · exact .inl ⟨by simp [p], h1, by simp [p], hfn.ef (b none), .inr ⟨r, s', b', hr, hw, x⟩⟩
    · exact .inr ⟨by simp [p], q, h1, .inr ⟨by simp [p], r, hr, hw, hfn.ef (b none), x⟩⟩
/-- What a field had at a time: records that came later, then the one. -/
def Late (g : Gs) (c : Lrw) (P : Int) : Prop := P < c.l ∨ ∃ s b, Stm g c.r s b ∧ P < b
def AsOf (g : Gs) (ch : Nat → List Lrw) (m : Int) (f : Nat) (P v : Int) : Prop := 0 ≤ P ∧ P ≤ m ∧ ((v = -1 ∧ ∀ c ∈ ch f, Late g c P) ∨ ∃ n c t, ch f = n ++ c :: t ∧ (∃ s b, Stm g c.r s b ∧ b ≤ P) ∧ v = sl c.a.val ∧ ∀ d ∈ n, Late g d P)
theorem Late.ef {c : Lrw} {P : Int} (h : Late g c P) (e : Ef g nx ch m g' nx' ch' m' o) : Late g' c P := by
  rcases h with a | ⟨s, b, x, y⟩
  · exact .inl a
  · exact .inr ⟨s, b, e.kS _ _ _ x, y⟩
theorem AsOf.ef {P v : Int} (h : AsOf g ch m f P v) (e : Ef g nx ch m g' nx' ch' m' o) : AsOf g' ch' m' f P v := by
  obtain ⟨h0, h1, h2⟩ := h
  obtain ⟨n', e1, e2⟩ := e.app f
  have hm := e.hm
  refine ⟨h0, by omega, ?_⟩
  rcases h2 with ⟨a, b⟩ | ⟨n, c, t, a, ⟨s, b, x, y⟩, d, z⟩
  · refine .inl ⟨a, fun c hc => ?_⟩
    rw [e1] at hc
    rcases List.mem_append.1 hc with q | q
    · have := e2 c q; exact .inl (by omega)
    · exact (b c q).ef e
  · refine .inr ⟨n' ++ n, c, t, by rw [e1, a, List.append_assoc], ⟨s, b, e.kS _ _ _ x, y⟩, d, fun c' hc => ?_⟩
    rcases List.mem_append.1 hc with q | q
    · have := e2 c' q; exact .inl (by omega)
    · exact (z c' q).ef e
theorem Stm.uniq {r s s' : Nat} {b b' : Int} (h : Stm g r s b) (h' : Stm g r s' b') : s = s' ∧ b = b' := ⟨h.2.1.symm.trans h'.2.1, by have := h.2.2.2.symm.trans h'.2.2.2; simpa using this⟩
theorem Sh.bm (h : Sh g nx ch m) {c : Lrw} (hc : c ∈ ch f) {s : Nat} {b : Int} (hs : Stm g c.r s b) : c.l < b ∧ Ck g m s b := by
  rcases h.st f c hc with ⟨a, _⟩ | ⟨s', b', x, y, z⟩
  · exact absurd (hs.2.1.symm.trans a) hs.2.2.1
  · obtain ⟨rfl, rfl⟩ := hs.uniq x
    exact ⟨y, z⟩
theorem nd_none {n : Nw} (h : Sh g nx ch m) (hd : Nd g ch m n f) (hr : n.rc = -1) : AsOf g ch m f (ptOf n.since (g.k.born n.rc)) (-1) := by
  obtain ⟨_, _, ⟨a, b, c⟩, _⟩ := hd
  rw [hr, h.b0]
  refine ⟨a, b, .inl ⟨rfl, fun c' hc => ?_⟩⟩
  rcases c with ⟨_, q⟩ | ⟨n', c2, t, _, q, _⟩
  · exact .inl (q c' hc)
  · omega
theorem nd_some {n : Nw} (h : Sh g nx ch m) (hd : Nd g ch m n f) (hr : 0 ≤ n.rc) : AsOf g ch m f (ptOf n.since (g.k.born n.rc)) (nm KC (g.X.getD (KC.bd n.rc.toNat 0) 0)) := by
  obtain ⟨_, _, ⟨a, b, c⟩, d⟩ := hd
  rcases c with ⟨q, _⟩ | ⟨n', c, t, e1, e2, e3, e4⟩
  · omega
  · rcases d with ⟨q, _⟩ | ⟨r, s, b', e5, _, e6⟩
    · omega
    · obtain rfl : c.r = r := by omega
      have hc : c ∈ ch f := by rw [e1]; simp
      obtain ⟨k1, k2⟩ := h.bm hc e6
      have hb := k2.2.2.2.1
      rw [e2, e6.2.2.2, Int.toNat_natCast]
      have hP : ptOf n.since (some b') = if n.since < b' then b' else n.since := rfl
      rw [hP]
      refine ⟨by split <;> omega, by split <;> omega, .inr ⟨n', c, t, e1, ⟨s, b', e6, by split <;> omega⟩, (h.rw f c hc).2.2.2.1, fun d hd => .inl ?_⟩⟩
      obtain ⟨s2, b2, x, y⟩ := h.ord f n' c t e1 d hd
      obtain ⟨_, rfl⟩ := e6.uniq x
      have := e4 d hd
      split <;> omega
/-- A Read under way. -/
def Rk (g : Gs) (ch : Nat → List Lrw) (m : Int) (r : Rd) (f k : Nat) : Prop := (r.pc = 0 ∧ ∃ k', Nk g ch m r.n f k' ∧ k' + 1 ≤ k) ∨ (r.pc = 1 ∧ Nd g ch m r.n f ∧ 0 ≤ r.n.rc ∧ 1 ≤ k)
theorem Rk.ef {r : Rd} (h : Rk g ch m r f k) (e : Ef g nx ch m g' nx' ch' m' o) : Rk g' ch' m' r f k := by
  rcases h with ⟨a, k', b, c⟩ | ⟨a, b, c⟩
  · exact .inl ⟨a, k', b.ef e, c⟩
  · exact .inr ⟨a, b.ef e, c⟩
theorem Nd.rc {n : Nw} (h : Nd g ch m n f) : n.rc = -1 ∨ 0 ≤ n.rc := by
  rcases h.2.2.2 with ⟨a, _⟩ | ⟨r, s, b, a, _⟩
  · exact .inl a
  · exact .inr (by omega)
theorem rk_step {r : Rd} (h : Sh g nx ch m) (hk : Rk g ch m r f k) (hf : f < 2) (hm : m < g.k.now) (B : Nat) :
    Sh (r.step KC B g).2 nx ch g.k.now ∧ (∀ o, Ef g nx ch m (r.step KC B g).2 nx ch g.k.now o) ∧
      (((r.step KC B g).1.pc = 2 ∧ AsOf (r.step KC B g).2 ch g.k.now f (r.step KC B g).1.point (r.step KC B g).1.val) ∨ ((r.step KC B g).1.pc ≠ 2 ∧ 2 ≤ k ∧ Rk (r.step KC B g).2 ch g.k.now (r.step KC B g).1 f (k - 1))) := by
  rcases hk with ⟨p, k', hn, hk⟩ | ⟨p, hn, hr, hk⟩
  · obtain ⟨a, b, _, _, _, c⟩ := nk_find h hn hf hm B
    have hp := hn.pos
    unfold Rd.step
    rw [if_pos p]
    rcases c with ⟨on, nd⟩ | ⟨on, h2, nk⟩
    · rw [if_neg (by rw [on]; simp)]
      by_cases e : (r.n.find KC B g).1.rc = -1
      · rw [if_pos e]
        exact ⟨a, b, .inl ⟨rfl, nd_none a nd e⟩⟩
      · rw [if_neg e]
        exact ⟨a, b, .inr ⟨by show (1 : Int) ≠ 2; omega, by omega, .inr ⟨rfl, nd, by have := nd.rc; show 0 ≤ (r.n.find KC B g).1.rc; omega, by omega⟩⟩⟩
    · rw [if_pos on]
      exact ⟨a, b, .inr ⟨by show r.pc ≠ 2; omega, by omega, .inl ⟨p, k' - 1, nk, by omega⟩⟩⟩
  · have qs : Sh { g with T := g.T + 1 } nx ch g.k.now := h.quiet (by omega) (by omega)
    have qe : ∀ o, Ef g nx ch m { g with T := g.T + 1 } nx ch g.k.now o := Ef.quiet (by omega) _
    unfold Rd.step
    rw [if_neg (by omega), if_pos p]
    exact ⟨qs, qe, .inl ⟨rfl, (nd_some h hn hr).ef (qe none)⟩⟩
/-- A Turn under way. -/
def Tk (g : Gs) (t : Tu) (k : Nat) : Prop := (t.pc = 0 ∧ 2 ≤ k) ∨ (t.pc = 1 ∧ 1 ≤ k ∧ 1 ≤ t.clock ∧ t.clock ≤ g.X.getD 0 0)
theorem Tk.ef {t : Tu} (h : Tk g t k) (e : Ef g nx ch m g' nx' ch' m' o) : Tk g' t k := by
  rcases h with a | ⟨a, b, c, d⟩
  · exact .inl a
  · exact .inr ⟨a, b, c, Nat.le_trans d e.clk⟩
theorem tk_step {t : Tu} (h : Sh g nx ch m) (hk : Tk g t k) (hm : m < g.k.now) (hT : g.T < 4611686018427387904) :
    Sh (t.step g).2 nx ch g.k.now ∧ (∀ o, Ef g nx ch m (t.step g).2 nx ch g.k.now o) ∧
      (((t.step g).1.pc = 2 ∧ (t.step g).2.k.turned (t.step g).1.view = some (t.step g).1.point) ∨ ((t.step g).1.pc ≠ 2 ∧ 2 ≤ k ∧ Tk (t.step g).2 (t.step g).1 (k - 1))) := by
  have qs : Sh { g with T := g.T + 1 } nx ch g.k.now := h.quiet (by omega) (by omega)
  have qe : ∀ o, Ef g nx ch m { g with T := g.T + 1 } nx ch g.k.now o := Ef.quiet (by omega) _
  rcases hk with ⟨p, hk⟩ | ⟨p, hk, c1, c2⟩
  · unfold Tu.step
    rw [if_pos p]
    exact ⟨qs, qe, .inr ⟨by show (1 : Int) ≠ 2; omega, hk, .inr ⟨rfl, by omega, h.clk.1, Nat.le_refl _⟩⟩⟩
  · unfold Tu.step
    rw [if_neg (by omega), if_pos p]
    unfold Tu.swap
    by_cases e : g.X.getD 0 0 = t.clock
    · rw [if_pos e]
      have hc := h.clk.2
      have e4 : Mm.sumW t.clock 1 = t.clock + 1 := by
        unfold Mm.sumW
        omega
      obtain ⟨a, b⟩ := h.turn hm
      unfold turnedG at a b
      rw [e] at a b
      rw [e4]
      refine ⟨a, b, .inl ⟨rfl, ?_⟩⟩
      show upd g.k.turned t.clock g.k.now t.clock = some (optI (upd g.k.turned t.clock g.k.now t.clock))
      rw [upd_eq]; rfl
    · rw [if_neg e]
      refine ⟨qs, qe, .inl ⟨rfl, ?_⟩⟩
      obtain ⟨tt, ht⟩ := h.t1 t.clock c1 (by omega)
      show g.k.turned t.clock = some (optI (g.k.turned t.clock))
      rw [ht]; rfl
/-- A See under way. -/
def Ek (g : Gs) (ch : Nat → List Lrw) (m : Int) (s : Se) (f : Nat) (tp : Int) (k : Nat) : Prop := s.val = -1 ∧ g.k.turned s.view = some tp ∧
  ((s.pc = 0 ∧ ∃ k', Nk g ch m s.n f k' ∧ (s.n.on = true → tp < s.n.since) ∧ k' + 70 ≤ k) ∨
   (s.pc = 1 ∧ ∃ n c t st b, ch f = n ++ c :: t ∧ s.n.rc = (c.r : Int) ∧ Stm g c.r st b ∧ (∀ d ∈ n, Late g d tp) ∧ 2 * t.length + 2 ≤ k) ∨
   (s.pc = 2 ∧ ∃ n c t st b, ch f = n ++ c :: t ∧ s.n.rc = (c.r : Int) ∧ Stm g c.r st b ∧ b ≤ tp ∧ (∀ d ∈ n, Late g d tp) ∧ 1 ≤ k) ∨
   (s.pc = 3 ∧ ∃ n c t, ch f = n ++ c :: t ∧ s.n.rc = (c.r : Int) ∧ (∀ d ∈ n ++ [c], Late g d tp) ∧ 2 * t.length + 1 ≤ k))
theorem Ek.ef {s : Se} {tp : Int} (h : Ek g ch m s f tp k) (h0 : Sh g nx ch m) (e : Ef g nx ch m g' nx' ch' m' o) : Ek g' ch' m' s f tp k := by
  obtain ⟨h1, h2, h3⟩ := h
  obtain ⟨n', e1, e2⟩ := e.app f
  have htp := (h0.t2 s.view tp h2).2.2
  have late : ∀ n : List Lrw, (∀ d ∈ n, Late g d tp) → ∀ d ∈ n' ++ n, Late g' d tp := fun n hn d hd => by
    rcases List.mem_append.1 hd with q | q
    · have := e2 d q; exact .inl (by omega)
    · exact (hn d q).ef e
  refine ⟨h1, e.tu _ _ h2, ?_⟩
  rcases h3 with ⟨p, k', a, b, c⟩ | ⟨p, n, c, t, st, b, q1, q2, q3, q4, q5⟩ | ⟨p, n, c, t, st, b, q1, q2, q3, q4, q5, q6⟩ | ⟨p, n, c, t, q1, q2, q3, q4⟩
  · exact .inl ⟨p, k', a.ef e, b, c⟩
  · exact .inr (.inl ⟨p, n' ++ n, c, t, st, b, by rw [e1, q1, List.append_assoc], q2, e.kS _ _ _ q3, late n q4, q5⟩)
  · exact .inr (.inr (.inl ⟨p, n' ++ n, c, t, st, b, by rw [e1, q1, List.append_assoc], q2, e.kS _ _ _ q3, q4, late n q5, q6⟩))
  · exact .inr (.inr (.inr ⟨p, n' ++ n, c, t, by rw [e1, q1, List.append_assoc], q2, by rw [List.append_assoc]; exact late _ q3, q4⟩))
theorem Lk.at {X : List Nat} : ∀ {n : List Lrw} {c : Lrw} {t : List Lrw} {w : Nat}, Lk X (n ++ c :: t) w → Lk X t (X.getD (KC.bd c.r 2) 0)
  | [], _, _, _, h => h.2
  | _ :: n, _, _, _, h => Lk.at (n := n) h.2
theorem ek_step {s : Se} {tp : Int} (h : Sh g nx ch m) (hk : Ek g ch m s f tp k) (hf : f < 2) (hm : m < g.k.now) (B : Nat) :
    Sh (s.step KC B g).2 nx ch g.k.now ∧ (∀ o, Ef g nx ch m (s.step KC B g).2 nx ch g.k.now o) ∧
      (((s.step KC B g).1.pc = 4 ∧ AsOf (s.step KC B g).2 ch g.k.now f tp (s.step KC B g).1.val) ∨ ((s.step KC B g).1.pc ≠ 4 ∧ 2 ≤ k ∧ Ek (s.step KC B g).2 ch g.k.now (s.step KC B g).1 f tp (k - 1))) := by
  have qs : Sh { g with T := g.T + 1 } nx ch g.k.now := h.quiet (by omega) (by omega)
  have qe : ∀ o, Ef g nx ch m { g with T := g.T + 1 } nx ch g.k.now o := Ef.quiet (by omega) _
  obtain ⟨h1, h2, h3⟩ := hk
  have htp := h.t2 s.view tp h2
  have hcn := h.cnt
  have hlen : (ch f).length ≤ 35 := by
    unfold cnt at hcn
    rcases (show f = 0 ∨ f = 1 by omega) with rfl | rfl <;> omega
  rcases h3 with ⟨p, k', hn, hsn, hk⟩ | ⟨p, n, c, t, st, b, q1, q2, q3, q4, q5⟩ | ⟨p, n, c, t, st, b, q1, q2, q3, q4, q5, q6⟩ | ⟨p, n, c, t, q1, q2, q3, q4⟩
  · obtain ⟨a, b, _, w1, w2, c⟩ := nk_find h hn hf hm B
    have hp := hn.pos
    have hsn2 : tp < (s.n.find KC B g).1.since := by
      cases on : s.n.on with
      | false => rw [(w1 on).1]; omega
      | true => rw [(w2 on).1]; exact hsn on
    unfold Se.step
    rw [if_pos p]
    rcases c with ⟨on, nd⟩ | ⟨on, h2', nk⟩
    · rw [if_neg (by rw [on]; simp)]
      refine ⟨a, b, ?_⟩
      unfold Se.goOn
      obtain ⟨_, _, ⟨z1, z2, z3⟩, z4⟩ := nd
      rcases z3 with ⟨e, z⟩ | ⟨n, c, t, e1, e2, e3, e4⟩
      · refine .inl ⟨by show (if (s.n.find KC B g).1.rc = -1 then (4 : Int) else 1) = 4; rw [if_pos e], ?_⟩
        show AsOf _ _ _ _ _ s.val
        rw [h1]
        exact ⟨htp.2.1, by omega, .inl ⟨rfl, fun c hc => .inl (by have := z c hc; omega)⟩⟩
      · have hne : ¬ (s.n.find KC B g).1.rc = -1 := by omega
        have hpc : (if (s.n.find KC B g).1.rc = -1 then (4 : Int) else 1) = 1 := if_neg hne
        obtain ⟨st, bb, hst⟩ : ∃ st bb, Stm (s.n.find KC B g).2 c.r st bb := by
          rcases z4 with ⟨q, _⟩ | ⟨r, st, bb, q1, _, q2⟩
          · exact absurd q hne
          · obtain rfl : c.r = r := by omega
            exact ⟨st, bb, q2⟩
        refine .inr ⟨by show (if (s.n.find KC B g).1.rc = -1 then (4 : Int) else 1) ≠ 4; rw [hpc]; omega, by omega, h1, (b none).tu _ _ h2, .inr (.inl ⟨hpc, n, c, t, st, bb, e1, e2, hst, fun d hd => .inl (by have := e4 d hd; omega), ?_⟩)⟩
        rw [e1] at hlen
        simp only [List.length_append, List.length_cons] at hlen
        omega
    · rw [if_pos on]
      exact ⟨a, b, .inr ⟨by show s.pc ≠ 4; omega, by omega, h1, (b none).tu _ _ h2, .inl ⟨p, k' - 1, nk, fun _ => hsn2, by omega⟩⟩⟩
  · unfold Se.step
    rw [if_neg (by omega), if_pos p, q2, Int.toNat_natCast, q3.2.1]
    refine ⟨qs, qe, .inr ⟨?_, by omega, h1, h2, ?_⟩⟩
    · show (if st ≤ s.view then (2 : Int) else 3) ≠ 4
      split <;> omega
    · have hc : c ∈ ch f := by rw [q1]; simp
      obtain ⟨_, ck⟩ := h.bm hc q3
      have := ck.2.2.2.2 s.view tp h2
      by_cases e : st ≤ s.view
      · exact .inr (.inr (.inl ⟨by show (if st ≤ s.view then (2 : Int) else 3) = 2; rw [if_pos e], n, c, t, st, b, q1, q2, q3, by omega, q4, by omega⟩))
      · refine .inr (.inr (.inr ⟨by show (if st ≤ s.view then (2 : Int) else 3) = 3; rw [if_neg e], n, c, t, q1, q2, fun d hd => ?_, by omega⟩))
        rcases List.mem_append.1 hd with q | q
        · exact q4 d q
        · simp at q
          subst q
          exact .inr ⟨st, b, q3, by omega⟩
  · unfold Se.step
    rw [if_neg (by omega), if_neg (by omega), if_pos p, q2, Int.toNat_natCast]
    have hc : c ∈ ch f := by rw [q1]; simp
    refine ⟨qs, qe, .inl ⟨rfl, htp.2.1, by omega, .inr ⟨n, c, t, q1, ⟨st, b, q3, q4⟩, (h.rw f c hc).2.2.2.1, q5⟩⟩⟩
  · unfold Se.step
    rw [if_neg (by omega), if_neg (by omega), if_neg (by omega), if_pos p, q2, Int.toNat_natCast]
    refine ⟨qs, qe, ?_⟩
    have hl := h.link f hf
    rw [q1] at hl
    have hl2 := hl.at
    unfold Se.goOn
    rcases hl2.nm (fun c' hc' => by have := (h.rw f c' (by rw [q1]; simp [hc'])).2.1; have := h.hnx; omega) with ⟨e1, e2, e3⟩ | ⟨c', t', e1, e2, e3⟩
    · refine .inl ⟨by show (if nm KC (g.X.getD (KC.bd c.r 2) 0) = -1 then (4 : Int) else 1) = 4; rw [if_pos e3], ?_⟩
      show AsOf _ _ _ _ _ s.val
      rw [h1]
      refine ⟨htp.2.1, by omega, .inl ⟨rfl, fun d hd => q3 d ?_⟩⟩
      rw [q1, e1] at hd
      exact hd
    · have hne : ¬ nm KC (g.X.getD (KC.bd c.r 2) 0) = -1 := by omega
      have hpc : (if nm KC (g.X.getD (KC.bd c.r 2) 0) = -1 then (4 : Int) else 1) = 1 := if_neg hne
      have q1' : ch f = (n ++ [c]) ++ c' :: t' := by rw [q1, e1]; simp
      obtain ⟨st, bb, hst, _⟩ := h.ord f (n ++ [c]) c' t' q1' c (by simp)
      refine .inr ⟨by show (if nm KC (g.X.getD (KC.bd c.r 2) 0) = -1 then (4 : Int) else 1) ≠ 4; rw [hpc]; omega, ?_, h1, h2, .inr (.inl ⟨hpc, n ++ [c], c', t', st, bb, q1', e3, hst, q3, ?_⟩)⟩
      · rw [e1] at q4; simp only [List.length_cons] at q4; omega
      · rw [e1] at q4; simp only [List.length_cons] at q4; omega
end
end Go.Proofs.YtnegdabcjnhpdaaDoor
/- A Lay under way, whatever others do: no world in sight. -/
namespace Go.Proofs.YtnegdabcjnhpdaaDoor
open Go.RowKit
section
variable {g g' : Gs} {nx nx' : Nat} {ch ch' : Nat → List Lrw} {m m' : Int} {o : Option Nat} {f k : Nat}
/-- A Shade under way. -/
def Zk (g : Gs) (s : Sd) (k : Nat) : Prop := (∃ r, 5 ≤ r ∧ r < 40 ∧ s.hd = KC.hd r) ∧
  ((s.pc = 0 ∧ 5 ≤ k) ∨ (s.pc = 0 ∧ g.X.getD s.hd 0 = H1 ∧ 1 ≤ k) ∨ (s.pc = 1 ∧ s.was = H0 ∧ s.nw = H1 ∧ 4 ≤ k) ∨ (s.pc = 2 ∧ s.was = H0 ∧ s.nw = H1 ∧ 3 ≤ k) ∨ (s.pc = 3 ∧ g.X.getD s.hd 0 = H1 ∧ 2 ≤ k))
theorem Zk.ef {s : Sd} (h : Zk g s k) (e : Ef g nx ch m g' nx' ch' m' o) : Zk g' s k := by
  obtain ⟨⟨r, h5, h4, hr⟩, h2⟩ := h
  have keep : g.X.getD s.hd 0 = H1 → g'.X.getD s.hd 0 = H1 := fun x => by rw [hr] at x ⊢; exact e.hd r h5 h4 x
  refine ⟨⟨r, h5, h4, hr⟩, ?_⟩
  rcases h2 with a | ⟨a, b, c⟩ | a | a | ⟨a, b, c⟩
  · exact .inl a
  · exact .inr (.inl ⟨a, keep b, c⟩)
  · exact .inr (.inr (.inl a))
  · exact .inr (.inr (.inr (.inl a)))
  · exact .inr (.inr (.inr (.inr ⟨a, keep b, c⟩)))
theorem h01 : H0 ≠ H1 := by decide +kernel
theorem zk_step {s : Sd} (h : Sh g nx ch m) (hk : Zk g s k) (hm : m < g.k.now) :
    Sh (s.step 2 g).2 nx ch g.k.now ∧ (∀ o, Ef g nx ch m (s.step 2 g).2 nx ch g.k.now o) ∧ (∀ f, f < 2 → (s.step 2 g).2.X.getD (KC.bd 0 f) 0 = g.X.getD (KC.bd 0 f) 0) ∧ (s.step 2 g).1.hd = s.hd ∧
      ((s.step 2 g).1.pc = 4 ∨ ((s.step 2 g).1.pc ≠ 4 ∧ 2 ≤ k ∧ Zk (s.step 2 g).2 (s.step 2 g).1 (k - 1))) := by
  have hlen := h.len
  have qs : Sh { g with T := g.T + 1 } nx ch g.k.now := h.quiet (by omega) (by omega)
  have qe : ∀ o, Ef g nx ch m { g with T := g.T + 1 } nx ch g.k.now o := Ef.quiet (by omega) _
  obtain ⟨⟨r, h5, h4, hr⟩, h2⟩ := hk
  have hnx := h.hnx
  have gs : ∀ v, Sh { g with X := g.X.set 2 v, T := g.T + 1 } nx ch g.k.now := fun v => h.store (by omega) (by omega) (by omega) (fun i hi => by rw [KC_bd]; omega) (fun r => by rw [KC_bd]; omega) (fun f c hc => by rw [KC_bd, KC_bd]; omega) (fun s h5 h4 x => by rw [KC_hd] at x; omega) (by omega)
  have ge : ∀ v o, Ef g nx ch m { g with X := g.X.set 2 v, T := g.T + 1 } nx ch g.k.now o := fun v o => Ef.store hlen (by omega) (by omega) (fun r => by rw [KC_bd]; omega) (fun r _ _ _ _ => by rw [KC_bd, KC_bd]; omega) (fun s h5 h4 x => by rw [KC_hd] at x; omega) (Nat.le_refl _)
  have gf : ∀ v f, f < 2 → (g.X.set 2 v).getD (KC.bd 0 f) 0 = g.X.getD (KC.bd 0 f) 0 := fun v f _ => getD_set_ne' (by rw [KC_bd]; omega)
  have gh : ∀ v, (g.X.set 2 v).getD s.hd 0 = g.X.getD s.hd 0 := fun v => getD_set_ne' (by rw [hr, KC_hd]; omega)
  have hh := h.hd r h5 h4
  rw [← hr] at hh
  have zr : ∃ r, 5 ≤ r ∧ r < 40 ∧ s.hd = KC.hd r := ⟨r, h5, h4, hr⟩
  have at0 : s.pc = 0 → (5 ≤ k ∨ g.X.getD s.hd 0 = H1) → Sh (s.step 2 g).2 nx ch g.k.now ∧ (∀ o, Ef g nx ch m (s.step 2 g).2 nx ch g.k.now o) ∧ (∀ f, f < 2 → (s.step 2 g).2.X.getD (KC.bd 0 f) 0 = g.X.getD (KC.bd 0 f) 0) ∧ (s.step 2 g).1.hd = s.hd ∧
      ((s.step 2 g).1.pc = 4 ∨ ((s.step 2 g).1.pc ≠ 4 ∧ 2 ≤ k ∧ Zk (s.step 2 g).2 (s.step 2 g).1 (k - 1))) := fun p hk => by
    unfold Sd.step
    rw [if_pos p]
    rcases hh with e | e
    · rw [e, if_pos can0]
      refine ⟨qs, qe, fun _ _ => rfl, rfl, .inr ⟨by show (1 : Int) ≠ 4; omega, ?_, zr, .inr (.inr (.inl ⟨rfl, rfl, rfl, ?_⟩))⟩⟩
      · rcases hk with x | x
        · omega
        · rw [e] at x; exact absurd x h01
      · rcases hk with x | x
        · omega
        · rw [e] at x; exact absurd x h01
    · rw [e, if_neg (by rw [can1]; simp)]
      exact ⟨qs, qe, fun _ _ => rfl, rfl, .inl rfl⟩
  rcases h2 with ⟨p, hk⟩ | ⟨p, hx, hk⟩ | ⟨p, w1, w2, hk⟩ | ⟨p, w1, w2, hk⟩ | ⟨p, hx, hk⟩
  · exact at0 p (.inl hk)
  · exact at0 p (.inr hx)
  · unfold Sd.step
    rw [if_neg (by omega), if_pos p]
    exact ⟨gs _, ge _, gf _, rfl, .inr ⟨by show (2 : Int) ≠ 4; omega, by omega, zr, .inr (.inr (.inr (.inl ⟨rfl, w1, w2, by omega⟩)))⟩⟩
  · unfold Sd.step
    rw [if_neg (by omega), if_neg (by omega), if_pos p]
    by_cases e : g.X.getD s.hd 0 = s.was
    · rw [if_pos e, w2, hr]
      refine ⟨h.store (by omega) (by omega) (by rw [KC_hd]; omega) (fun i hi => by rw [KC_bd, KC_hd]; omega) (fun r => by rw [KC_bd, KC_hd]; omega) (fun f c hc => by rw [KC_bd, KC_bd, KC_hd]; omega) (fun _ _ _ _ => rfl) (by omega), fun o => Ef.store hlen (by omega) (by rw [KC_hd]; omega) (fun r => by rw [KC_bd, KC_hd]; omega) (fun r _ _ _ _ => by rw [KC_bd, KC_bd, KC_hd]; omega) (fun _ _ _ _ => rfl) (Nat.le_refl _), fun f hf => ?_, rfl, .inl rfl⟩
      show (g.X.set (KC.hd r) H1).getD _ 0 = _
      exact getD_set_ne' (by rw [KC_bd, KC_hd]; omega)
    · rw [if_neg e]
      have hx : g.X.getD s.hd 0 = H1 := by
        rcases hh with x | x
        · exact absurd (x.trans w1.symm) e
        · exact x
      exact ⟨qs, qe, fun _ _ => rfl, rfl, .inr ⟨by show (3 : Int) ≠ 4; omega, by omega, zr, .inr (.inr (.inr (.inr ⟨rfl, hx, by omega⟩)))⟩⟩
  · unfold Sd.step
    rw [if_neg (by omega), if_neg (by omega), if_neg (by omega)]
    exact ⟨gs _, ge _, gf _, rfl, .inr ⟨by show (0 : Int) ≠ 4; omega, by omega, zr, .inr (.inl ⟨rfl, by show (g.X.set 2 _).getD s.hd 0 = H1; rw [gh]; exact hx, by omega⟩)⟩⟩
/-- What a Lay is, as long as its record is its own. -/
structure Yp (g : Gs) (nx : Nat) (ch : Nat → List Lrw) (l : La) (a : Ac) (f : Nat) : Prop where
  out : Out ch l.fresh
  fr : 5 ≤ l.fresh ∧ l.fresh < nx
  val : nm KC (g.X.getD (KC.bd l.fresh 0) 0) = sl a.val
  fld : a.fld = (f : Int)
  kind : a.kind = 1 ∧ l.expect = -2 ∨ a.kind = 2 ∧ l.expect = sl a.expect
  laid : l.laid = false
  e : l.e = 2
/-- What a turn of the field costs it. -/
def dm (g : Gs) (n : Nw) (f : Nat) : Nat := if g.X.getD (KC.bd 0 f) 0 = n.word then 0 else 12
def Mt (ch : Nat → List Lrw) (f : Nat) (n : Nw) (a : Ac) : Prop := a.kind = 2 → (n.rc = -1 ∧ sl a.expect = -1) ∨ ∃ c, c ∈ ch f ∧ n.rc = (c.r : Int) ∧ sl c.a.val = sl a.expect
def Yst (g : Gs) (ch : Nat → List Lrw) (m : Int) (l : La) (a : Ac) (f k : Nat) : Prop :=
  (l.pc = 0 ∧ l.n.field = KC.bd 0 f ∧ l.n.on = false ∧ 15 ≤ k) ∨
  (l.pc = 0 ∧ l.n.on = true ∧ ∃ k', Nk g ch m l.n f k' ∧ k' + 11 + dm g l.n f ≤ k) ∨
  (l.pc = 1 ∧ Nd g ch m l.n f ∧ 0 ≤ l.n.rc ∧ a.kind = 2 ∧ 11 + dm g l.n f ≤ k) ∨
  (l.pc = 2 ∧ Nd g ch m l.n f ∧ Mt ch f l.n a ∧ 10 + dm g l.n f ≤ k) ∨
  (l.pc = 3 ∧ Nd g ch m l.n f ∧ Mt ch f l.n a ∧ g.X.getD (KC.bd l.fresh 2) 0 = l.n.word ∧ ∃ s k', l.sh = some s ∧ Zk g s k' ∧ k' + 4 + dm g l.n f ≤ k) ∨
  (l.pc = 4 ∧ Nd g ch m l.n f ∧ Mt ch f l.n a ∧ g.X.getD (KC.bd l.fresh 2) 0 = l.n.word ∧ 4 + dm g l.n f ≤ k)
def Y5 (g : Gs) (ch : Nat → List Lrw) (m : Int) (l : La) (a : Ac) (f k : Nat) : Prop := l.pc = 5 ∧ (∃ c, c ∈ ch f ∧ c.r = l.fresh ∧ c.a = a) ∧ Sk g ch m l.n.s l.fresh k
def Yk (g : Gs) (nx : Nat) (ch : Nat → List Lrw) (m : Int) (l : La) (a : Ac) (f k : Nat) : Prop := (Yp g nx ch l a f ∧ Yst g ch m l a f k) ∨ Y5 g ch m l a f k
theorem Mt.ef {n : Nw} {a : Ac} (h : Mt ch f n a) (e : Ef g nx ch m g' nx' ch' m' o) : Mt ch' f n a := fun hk => by
  rcases h hk with x | ⟨c, x, y⟩
  · exact .inl x
  · exact .inr ⟨c, e.mem x, y⟩
theorem dm_ef {n : Nw} (h0 : Sh g nx ch m) (h1 : Sh g' nx' ch' m') (e : Ef g nx ch m g' nx' ch' m' o) (hf : f < 2) : dm g' n f ≤ dm g n f + 12 * (cnt ch' - cnt ch) := by
  by_cases hc : cnt ch' = cnt ch
  · have heq : ch' f = ch f := by
      obtain ⟨n0, a0, _⟩ := e.app 0
      obtain ⟨n1, a1, _⟩ := e.app 1
      have hl : n0.length = 0 ∧ n1.length = 0 := by
        unfold cnt at hc
        rw [a0, a1] at hc
        simp only [List.length_append] at hc
        omega
      rw [List.length_eq_zero_iff.1 hl.1] at a0
      rw [List.length_eq_zero_iff.1 hl.2] at a1
      rcases (show f = 0 ∨ f = 1 by omega) with rfl | rfl
      · exact a0
      · exact a1
    have hw : g'.X.getD (KC.bd 0 f) 0 = g.X.getD (KC.bd 0 f) 0 := by
      have a := h0.link f hf
      have b := h1.link f hf
      rw [heq] at b
      exact b.word a
    unfold dm
    rw [hw]
    omega
  · have := e.cnt_le
    unfold dm
    split <;> split <;> omega
theorem dm_same {n : Nw} (h : g'.X.getD (KC.bd 0 f) 0 = g.X.getD (KC.bd 0 f) 0) : dm g' n f = dm g n f := by unfold dm; rw [h]
theorem Yp.ef {l : La} {a : Ac} (h : Yp g nx ch l a f) (e : Ef g nx ch m g' nx' ch' m' o) (ho : o ≠ some l.fresh) : Yp g' nx' ch' l a f ∧ g'.X.getD (KC.bd l.fresh 2) 0 = g.X.getD (KC.bd l.fresh 2) 0 := by
  obtain ⟨x, y, z⟩ := e.prv l.fresh h.fr.1 h.fr.2 ho h.out
  exact ⟨⟨z, ⟨h.fr.1, Nat.lt_of_lt_of_le h.fr.2 e.hnx⟩, by rw [x]; exact h.val, h.fld, h.kind, h.laid, h.e⟩, y⟩
theorem Yst.ef {l : La} {a : Ac} (h : Yst g ch m l a f k) (e : Ef g nx ch m g' nx' ch' m' o) (hw : g'.X.getD (KC.bd l.fresh 2) 0 = g.X.getD (KC.bd l.fresh 2) 0) {d : Nat} (hd : dm g' l.n f ≤ dm g l.n f + d) : Yst g' ch' m' l a f (k + d) := by
  rcases h with ⟨p, q, r, s⟩ | ⟨p, on, k', q, r⟩ | ⟨p, q, r, s, t⟩ | ⟨p, q, r, s⟩ | ⟨p, q, r, s, z, k', t, u, v⟩ | ⟨p, q, r, s, t⟩
  · exact .inl ⟨p, q, r, by omega⟩
  · exact .inr (.inl ⟨p, on, k', q.ef e, by omega⟩)
  · exact .inr (.inr (.inl ⟨p, q.ef e, r, s, by omega⟩))
  · exact .inr (.inr (.inr (.inl ⟨p, q.ef e, r.ef e, by omega⟩)))
  · exact .inr (.inr (.inr (.inr (.inl ⟨p, q.ef e, r.ef e, by rw [hw]; exact s, z, k', t, u.ef e, by omega⟩))))
  · exact .inr (.inr (.inr (.inr (.inr ⟨p, q.ef e, r.ef e, by rw [hw]; exact s, by omega⟩))))
theorem Y5.ef {l : La} {a : Ac} (h : Y5 g ch m l a f k) (e : Ef g nx ch m g' nx' ch' m' o) (d : Nat) : Y5 g' ch' m' l a f (k + d) := by
  obtain ⟨p, ⟨c, x, y⟩, q⟩ := h
  exact ⟨p, ⟨c, e.mem x, y⟩, (q.ef e).le (by omega)⟩
theorem Yk.ef {l : La} {a : Ac} (h : Yk g nx ch m l a f k) (h0 : Sh g nx ch m) (h1 : Sh g' nx' ch' m') (e : Ef g nx ch m g' nx' ch' m' o) (hf : f < 2) (ho : o ≠ some l.fresh) : Yk g' nx' ch' m' l a f (k + 12 * (cnt ch' - cnt ch)) := by
  rcases h with ⟨p, s⟩ | s
  · obtain ⟨p', hw⟩ := p.ef e ho
    exact .inl ⟨p', s.ef e hw (dm_ef h0 h1 e hf)⟩
  · exact .inr (s.ef e _)
/-- What a Lay comes to. -/
def Yend (g : Gs) (ch : Nat → List Lrw) (m : Int) (l : La) (a : Ac) (f : Nat) : Prop :=
  (l.laid = true ∧ (∃ c, c ∈ ch f ∧ c.r = l.fresh ∧ c.a = a) ∧ ∃ s, Stm g l.fresh s l.point) ∨ (l.laid = false ∧ a.kind = 2 ∧ Out ch l.fresh ∧ ∃ v, AsOf g ch m f l.point v ∧ v ≠ sl a.expect)
def Ynext (g : Gs) (nx : Nat) (ch : Nat → List Lrw) (m : Int) (l : La) (a : Ac) (f k : Nat) (x : La × Gs) : Prop :=
  x.1.fresh = l.fresh ∧ ∃ ch', Sh x.2 nx ch' g.k.now ∧ Ef g nx ch m x.2 nx ch' g.k.now (some l.fresh) ∧ (∀ f' c, c ∈ ch' f' → c ∈ ch f' ∨ (c.r = l.fresh ∧ x.1.pc = 5)) ∧
    ((x.1.pc = 6 ∧ Yend x.2 ch' g.k.now x.1 a f) ∨ (x.1.pc ≠ 6 ∧ 2 ≤ k ∧ Yk x.2 nx ch' g.k.now x.1 a f (k - 1)))
theorem sl_ge (v : Int) : -1 ≤ sl v := by unfold sl; split <;> omega
theorem yk_step {l : La} {a : Ac} (h : Sh g nx ch m) (hk : Yk g nx ch m l a f k) (hf : f < 2) (hm : m < g.k.now) (B Q : Nat) : Ynext g nx ch m l a f k (l.step KC B Q g) := by
  have hlen := h.len
  have hnx := h.hnx
  have qs : Sh { g with T := g.T + 1 } nx ch g.k.now := h.quiet (by omega) (by omega)
  have qe : ∀ o, Ef g nx ch m { g with T := g.T + 1 } nx ch g.k.now o := Ef.quiet (by omega) _
  rcases hk with ⟨yp, ys⟩ | ⟨p, ⟨c, hc, hcr, hca⟩, hs⟩
  · have keep : ∀ g' : Gs, (∀ o, Ef g nx ch m g' nx ch g.k.now o) → Yp g' nx ch l a f ∧ g'.X.getD (KC.bd l.fresh 2) 0 = g.X.getD (KC.bd l.fresh 2) 0 := fun g' e => yp.ef (e none) (by simp)
    have hsl := sl_ge a.expect
    -- behind the finding
    have fnd : ∀ (l' : La) (g' : Gs), l'.fresh = l.fresh → l'.expect = l.expect → l'.laid = l.laid → l'.e = l.e → Sh g' nx ch g.k.now → (∀ o, Ef g nx ch m g' nx ch g.k.now o) → Nd g' ch g.k.now l'.n f → 12 + dm g' l'.n f ≤ k → Ynext g nx ch m l a f k (l'.found g', g') := fun l' g' e1 e2 e3 e4 sh ef nd hkk => by
      have yp1 := (keep g' ef).1
      have yp' : ∀ l2 : La, l2.fresh = l.fresh → l2.expect = l.expect → l2.laid = l.laid → l2.e = l.e → Yp g' nx ch l2 a f := fun l2 a1 a2 a3 a4 => ⟨by rw [a1]; exact yp1.out, by rw [a1]; exact yp1.fr, by rw [a1]; exact yp1.val, yp1.fld, by rw [a2]; exact yp1.kind, by rw [a3]; exact yp1.laid, by rw [a4]; exact yp1.e⟩
      have new : ∀ f' c, c ∈ ch f' → c ∈ ch f' ∨ (c.r = l.fresh ∧ (l'.found g').pc = 5) := fun _ _ x => .inl x
      unfold La.found at new ⊢
      by_cases c1 : l'.expect < -1
      · rw [if_pos c1] at new ⊢
        refine ⟨e1, ch, sh, ef _, new, .inr ⟨by show (2 : Int) ≠ 6; omega, by omega, .inl ⟨yp' _ e1 e2 e3 e4, .inr (.inr (.inr (.inl ⟨rfl, nd, fun hk2 => ?_, by show 10 + dm g' l'.n f ≤ k - 1; omega⟩)))⟩⟩⟩
        rcases yp.kind with ⟨q, _⟩ | ⟨_, q⟩ <;> omega
      · rw [if_neg c1] at new ⊢
        have hk2 : a.kind = 2 ∧ l.expect = sl a.expect := by rcases yp.kind with ⟨_, q⟩ | q <;> first | exact q | omega
        by_cases c2 : l'.n.rc = -1
        · rw [if_pos c2] at new ⊢
          unfold La.comp at new ⊢
          by_cases c3 : (-1 : Int) = l'.expect
          · rw [if_pos c3] at new ⊢
            exact ⟨e1, ch, sh, ef _, new, .inr ⟨by show (2 : Int) ≠ 6; omega, by omega, .inl ⟨yp' _ e1 e2 e3 e4, .inr (.inr (.inr (.inl ⟨rfl, nd, fun _ => .inl ⟨c2, by omega⟩, by show 10 + dm g' l'.n f ≤ k - 1; omega⟩)))⟩⟩⟩
          · rw [if_neg c3] at new ⊢
            exact ⟨e1, ch, sh, ef _, new, .inl ⟨rfl, .inr ⟨by show l'.laid = false; rw [e3]; exact yp.laid, hk2.1, by show Out ch l'.fresh; rw [e1]; exact yp.out, -1, nd_none sh nd c2, by omega⟩⟩⟩
        · rw [if_neg c2] at new ⊢
          exact ⟨e1, ch, sh, ef _, new, .inr ⟨by show (1 : Int) ≠ 6; omega, by omega, .inl ⟨yp' _ e1 e2 e3 e4, .inr (.inr (.inl ⟨rfl, nd, by have := nd.rc; show 0 ≤ l'.n.rc; omega, hk2.1, by show 11 + dm g' l'.n f ≤ k - 1; omega⟩))⟩⟩⟩
    rcases ys with ⟨p, q, on, hk⟩ | ⟨p, on, k', q, hk⟩ | ⟨p, nd, r0, hk2, hk⟩ | ⟨p, nd, mt, hk⟩ | ⟨p, nd, mt, ho, z, k', hz, zk, hk⟩ | ⟨p, nd, mt, ho, hk⟩
    · have e : l.step KC B Q g = (if (l.n.find KC B g).1.on = true then { l with n := (l.n.find KC B g).1 } else La.found { l with n := (l.n.find KC B g).1 } (l.n.find KC B g).2, (l.n.find KC B g).2) := by unfold La.step; rw [if_pos p]
      rw [e]
      obtain ⟨sh, ef, w0, w1, _, c⟩ := nk_find (k := 4) h ⟨q, .inl ⟨on, Nat.le_refl _⟩⟩ hf hm B
      have hd0 : dm (l.n.find KC B g).2 (l.n.find KC B g).1 f = 0 := by unfold dm; rw [w0, (w1 on).2, if_pos rfl]
      rcases c with ⟨on', nd⟩ | ⟨on', _, nk⟩
      · rw [if_neg (by rw [on']; simp)]
        exact fnd { l with n := (l.n.find KC B g).1 } _ rfl rfl rfl rfl sh ef nd (by show 12 + dm (l.n.find KC B g).2 (l.n.find KC B g).1 f ≤ k; omega)
      · rw [if_pos on']
        have yp1 := (keep _ ef).1
        exact ⟨rfl, ch, sh, ef _, fun _ _ x => .inl x, .inr ⟨by show l.pc ≠ 6; omega, by omega, .inl ⟨⟨yp1.out, yp1.fr, yp1.val, yp1.fld, yp1.kind, yp1.laid, yp1.e⟩, .inr (.inl ⟨p, on', 3, nk, by show 3 + 11 + dm (l.n.find KC B g).2 (l.n.find KC B g).1 f ≤ k - 1; omega⟩)⟩⟩⟩
    · have e : l.step KC B Q g = (if (l.n.find KC B g).1.on = true then { l with n := (l.n.find KC B g).1 } else La.found { l with n := (l.n.find KC B g).1 } (l.n.find KC B g).2, (l.n.find KC B g).2) := by unfold La.step; rw [if_pos p]
      rw [e]
      obtain ⟨sh, ef, w0, _, w2, c⟩ := nk_find h q hf hm B
      have hp := q.pos
      have hd0 : dm (l.n.find KC B g).2 (l.n.find KC B g).1 f = dm g l.n f := by unfold dm; rw [w0, (w2 on).2]
      rcases c with ⟨on', nd⟩ | ⟨on', h2, nk⟩
      · rw [if_neg (by rw [on']; simp)]
        exact fnd { l with n := (l.n.find KC B g).1 } _ rfl rfl rfl rfl sh ef nd (by show 12 + dm (l.n.find KC B g).2 (l.n.find KC B g).1 f ≤ k; omega)
      · rw [if_pos on']
        have yp1 := (keep _ ef).1
        exact ⟨rfl, ch, sh, ef _, fun _ _ x => .inl x, .inr ⟨by show l.pc ≠ 6; omega, by omega, .inl ⟨⟨yp1.out, yp1.fr, yp1.val, yp1.fld, yp1.kind, yp1.laid, yp1.e⟩, .inr (.inl ⟨p, on', k' - 1, nk, by show k' - 1 + 11 + dm (l.n.find KC B g).2 (l.n.find KC B g).1 f ≤ k - 1; omega⟩)⟩⟩⟩
    · have e : l.step KC B Q g = (l.comp { g with T := g.T + 1 } (nm KC (g.X.getD (KC.bd l.n.rc.toNat 0) 0)), { g with T := g.T + 1 }) := by unfold La.step; rw [if_neg (by omega), if_pos p]
      rw [e]
      have yp1 := (keep _ qe).1
      have hk3 : l.expect = sl a.expect := by rcases yp.kind with ⟨q, _⟩ | q <;> first | exact q.2 | omega
      unfold La.comp
      by_cases c3 : nm KC (g.X.getD (KC.bd l.n.rc.toNat 0) 0) = l.expect
      · rw [if_pos c3]
        refine ⟨rfl, ch, qs, qe _, fun _ _ x => .inl x, .inr ⟨by show (2 : Int) ≠ 6; omega, by omega, .inl ⟨⟨yp1.out, yp1.fr, yp1.val, yp1.fld, yp1.kind, yp1.laid, yp1.e⟩, .inr (.inr (.inr (.inl ⟨rfl, nd.ef (qe none), fun _ => .inr ?_, by show 10 + dm g l.n f ≤ k - 1; omega⟩)))⟩⟩⟩
        obtain ⟨_, _, ⟨_, _, z3⟩, _⟩ := nd
        rcases z3 with ⟨q, _⟩ | ⟨n, c, t, q1, q2, _⟩
        · omega
        · have hc : c ∈ ch f := by rw [q1]; simp
          refine ⟨c, hc, q2, ?_⟩
          rw [← (h.rw f c hc).2.2.2.1, ← hk3, ← c3, q2, Int.toNat_natCast]
      · rw [if_neg c3]
        exact ⟨rfl, ch, qs, qe _, fun _ _ x => .inl x, .inl ⟨rfl, .inr ⟨yp.laid, hk2, yp.out, _, nd_some qs (nd.ef (qe none)) r0, by rw [← hk3]; exact c3⟩⟩⟩
    · have e : l.step KC B Q g = (if l.n.rc ≠ -1 ∧ Hh.fen l.e = true then { l with pc := 3, sh := some ⟨Q, false, KC.hd l.n.rc.toNat, 0, 0, 0⟩ } else { l with pc := 4 }, l.oldG KC g) := by unfold La.step; rw [if_neg (by omega), if_neg (by omega), if_pos p]
      rw [e]
      have hfr := yp.fr
      have sh : Sh (l.oldG KC g) nx ch g.k.now := h.store (by omega) (by omega) (by rw [KC_bd]; omega) (fun i hi => by rw [KC_bd, KC_bd]; omega) (fun r => by rw [KC_bd, KC_bd]; omega) (fun f c hc => by have := yp.out f c hc; rw [KC_bd, KC_bd, KC_bd]; omega) (fun s _ _ x => by rw [KC_bd, KC_hd] at x; omega) (by omega)
      have ef : Ef g nx ch m (l.oldG KC g) nx ch g.k.now (some l.fresh) := Ef.store hlen (by omega) (by rw [KC_bd]; omega) (fun r => by rw [KC_bd, KC_bd]; omega) (fun r _ _ hr _ => by
        have : l.fresh ≠ r := fun x => hr (by rw [x])
        rw [KC_bd, KC_bd, KC_bd]; omega) (fun s _ _ x => by rw [KC_bd, KC_hd] at x; omega) (Nat.le_refl _)
      have hw : (l.oldG KC g).X.getD (KC.bd 0 f) 0 = g.X.getD (KC.bd 0 f) 0 := by show (g.X.set _ _).getD _ 0 = _; exact getD_set_ne' (by rw [KC_bd, KC_bd]; omega)
      have hw2 : (l.oldG KC g).X.getD (KC.bd l.fresh 2) 0 = l.n.word := by
        show (g.X.set (KC.bd l.fresh 2) (l.n.rc + 1).toNat).getD _ 0 = _
        rw [getD_set_eq (by rw [hlen, KC_bd]; omega)]
        rcases nd.2.2.2 with ⟨q1, q2⟩ | ⟨r, s, b, q1, q2, _⟩
        · rw [q1, q2]; rfl
        · rw [q1, q2]; omega
      have yp1 : Yp (l.oldG KC g) nx ch l a f := ⟨yp.out, yp.fr, by show nm KC ((g.X.set _ _).getD _ 0) = _; rw [getD_set_ne' (by rw [KC_bd, KC_bd]; omega)]; exact yp.val, yp.fld, yp.kind, yp.laid, yp.e⟩
      have hd := dm_same (n := l.n) hw
      have nd' := nd.ef ef
      by_cases c1 : l.n.rc ≠ -1 ∧ Hh.fen l.e = true
      · rw [if_pos c1]
        refine ⟨rfl, ch, sh, ef, fun _ _ x => .inl x, .inr ⟨by show (3 : Int) ≠ 6; omega, by omega, .inl ⟨⟨yp1.out, yp1.fr, yp1.val, yp1.fld, yp1.kind, yp1.laid, yp1.e⟩, .inr (.inr (.inr (.inr (.inl ⟨rfl, nd', mt, hw2, _, 5, rfl, ⟨?_, .inl ⟨rfl, Nat.le_refl _⟩⟩, by show 5 + 4 + dm (l.oldG KC g) l.n f ≤ k - 1; omega⟩))))⟩⟩⟩
        obtain ⟨_, _, ⟨_, _, z3⟩, _⟩ := nd
        rcases z3 with ⟨q, _⟩ | ⟨n, c, t, q1, q2, _⟩
        · exact absurd q c1.1
        · have := (h.rw f c (by rw [q1]; simp)).2.1
          exact ⟨c.r, by omega, by omega, by show KC.hd l.n.rc.toNat = _; rw [q2]; rfl⟩
      · rw [if_neg c1]
        exact ⟨rfl, ch, sh, ef, fun _ _ x => .inl x, .inr ⟨by show (4 : Int) ≠ 6; omega, by omega, .inl ⟨⟨yp1.out, yp1.fr, yp1.val, yp1.fld, yp1.kind, yp1.laid, yp1.e⟩, .inr (.inr (.inr (.inr (.inr ⟨rfl, nd', mt, hw2, by show 4 + dm (l.oldG KC g) l.n f ≤ k - 1; omega⟩))))⟩⟩⟩
    · have e : l.step KC B Q g = ({ l with sh := some (z.step 2 g).1, pc := if (z.step 2 g).1.pc = 4 then 4 else 3 }, (z.step 2 g).2) := by
        unfold La.step
        rw [if_neg (by omega), if_neg (by omega), if_neg (by omega), if_pos p, hz, yp.e]
      rw [e]
      obtain ⟨sh, ef, w, hh, c⟩ := zk_step h zk hm
      obtain ⟨yp1, hw2⟩ := keep _ ef
      have hd := dm_same (n := l.n) (w f hf)
      have nd' := nd.ef (ef none)
      rcases c with c | ⟨c, h2, zk'⟩
      · have hpc : (if (z.step 2 g).1.pc = 4 then (4 : Int) else 3) = 4 := if_pos c
        refine ⟨rfl, ch, sh, ef _, fun _ _ x => .inl x, .inr ⟨by show (if (z.step 2 g).1.pc = 4 then (4 : Int) else 3) ≠ 6; omega, by omega, .inl ⟨⟨yp1.out, yp1.fr, yp1.val, yp1.fld, yp1.kind, yp1.laid, yp.e⟩, .inr (.inr (.inr (.inr (.inr ⟨hpc, nd', mt, by show _ = l.n.word; rw [← ho]; exact hw2, ?_⟩))))⟩⟩⟩
        show 4 + dm (z.step 2 g).2 l.n f ≤ k - 1
        have : 1 ≤ k' := by obtain ⟨_, q⟩ := zk; rcases q with q | q | q | q | q <;> omega
        omega
      · have hpc : (if (z.step 2 g).1.pc = 4 then (4 : Int) else 3) = 3 := if_neg c
        exact ⟨rfl, ch, sh, ef _, fun _ _ x => .inl x, .inr ⟨by show (if (z.step 2 g).1.pc = 4 then (4 : Int) else 3) ≠ 6; omega, by omega, .inl ⟨⟨yp1.out, yp1.fr, yp1.val, yp1.fld, yp1.kind, yp1.laid, yp.e⟩, .inr (.inr (.inr (.inr (.inl ⟨hpc, nd', mt, by show _ = l.n.word; rw [← ho]; exact hw2, _, k' - 1, rfl, zk', by show k' - 1 + 4 + dm (z.step 2 g).2 l.n f ≤ k - 1; omega⟩))))⟩⟩⟩
    · have e : l.step KC B Q g = l.swap KC B g := by unfold La.step; rw [if_neg (by omega), if_neg (by omega), if_neg (by omega), if_neg (by omega), if_pos p]
      rw [e]
      unfold La.swap
      by_cases c1 : g.X.getD l.n.field 0 = l.n.word
      · rw [if_pos c1]
        rw [nd.1] at c1 ⊢
        have hd : dm g l.n f = 0 := by unfold dm; rw [if_pos c1]
        have hl := h.link f hf
        have hnm := hl.nm (fun c hc => by have := (h.rw f c hc).2.1; omega)
        obtain ⟨sh, ef⟩ := h.lay hf yp.fr yp.out yp.val yp.fld (by rcases yp.kind with x | x <;> omega) (ho.trans c1.symm) (fun c t ht => by
          rcases hnm with ⟨q, _⟩ | ⟨c', t', q1, q2, _⟩
          · rw [q] at ht; cases ht
          · rw [q1] at ht
            cases ht
            rcases nd.2.2.2 with ⟨_, q⟩ | ⟨r, s, b, _, q3, q4⟩
            · omega
            · obtain rfl : c.r = r := by omega
              exact ⟨s, b, q4⟩) (fun hk2 => by
          rcases hnm with ⟨q, q2, _⟩ | ⟨c', t', q1, q2, _⟩
          · rw [q]
            rcases mt hk2 with ⟨_, x⟩ | ⟨c, hc, _⟩
            · exact x.symm
            · rw [q] at hc; cases hc
          · rw [q1]
            have hwr : l.n.rc = (c'.r : Int) := by
              rcases nd.2.2.2 with ⟨_, q⟩ | ⟨r, s, b, q3, q4, _⟩ <;> omega
            rcases mt hk2 with ⟨x, _⟩ | ⟨c, hc, x, y⟩
            · omega
            · have : c = c' := h.one hc (show c' ∈ ch f by rw [q1]; simp) (by omega)
              rw [← this]
              exact y) hm
        refine ⟨rfl, _, sh, ef, fun f' c hc => ?_, .inr ⟨by show (5 : Int) ≠ 6; omega, by omega, .inr ⟨rfl, ⟨⟨l.fresh, g.k.now, a⟩, by rw [laidC_eq]; simp, rfl, rfl⟩, rfl, rfl, ⟨f, ⟨l.fresh, g.k.now, a⟩, by rw [laidC_eq]; simp, rfl, fun x => by cases x⟩, .inl ⟨rfl, by omega⟩⟩⟩⟩
        rcases mem_laidC hc with ⟨_, rfl⟩ | x
        · exact .inr ⟨rfl, rfl⟩
        · exact .inl x
      · rw [if_neg c1]
        have hd : dm g l.n f = 12 := by unfold dm; rw [if_neg (by rw [← nd.1]; exact c1)]
        have yp1 := (keep _ qe).1
        exact ⟨rfl, ch, qs, qe _, fun _ _ x => .inl x, .inr ⟨by show (0 : Int) ≠ 6; omega, by omega, .inl ⟨⟨yp1.out, yp1.fr, yp1.val, yp1.fld, yp1.kind, yp1.laid, yp1.e⟩, .inl ⟨rfl, nd.1, nd.2.1, by omega⟩⟩⟩⟩
  · have e : l.step KC B Q g = l.stamp g := by
      unfold La.step
      rw [if_neg (by omega), if_neg (by omega), if_neg (by omega), if_neg (by omega), if_neg (by omega), if_pos p]
    rw [e]
    obtain ⟨sh, ef, c2⟩ := sk_step h hs hm
    unfold La.stamp
    rcases c2 with ⟨q, s', b, x⟩ | ⟨q, h2, x⟩
    · rw [if_pos q]
      refine ⟨rfl, ch, sh, ef _, fun _ _ x => .inl x, .inl ⟨rfl, .inl ⟨rfl, ⟨c, hc, hcr, hca⟩, s', ?_⟩⟩⟩
      show Stm (l.n.s.step g).2 l.fresh s' (optI ((l.n.s.step g).2.k.born l.fresh))
      rw [x.2.2.2]
      exact x
    · rw [if_neg q]
      exact ⟨rfl, ch, sh, ef _, fun _ _ x => .inl x, .inr ⟨by show l.pc ≠ 6; omega, h2, .inr ⟨p, ⟨c, hc, hcr, hca⟩, x⟩⟩⟩
end
end Go.Proofs.YtnegdabcjnhpdaaDoor
/- What was done, and a hand under way, whatever others do: no world in sight. -/
namespace Go.Proofs.YtnegdabcjnhpdaaDoor
open Go.RowKit
section
variable {g g' : Gs} {nx nx' : Nat} {ch ch' : Nat → List Lrw} {m m' : Int} {o : Option Nat} {k : Nat} {fi fi' : Nat → Option Nat} {ds : List Dn}
/-- An act that was made right. -/
def Nm (a : Ac) : Prop := (a.fld = 0 ∨ a.fld = 1) ∧ a.val ≤ 3 ∧ a.expect ≤ 3
/-- One of the things that were done is as it should be. -/
def Dk1 (g : Gs) (ch : Nat → List Lrw) (m : Int) (fi : Nat → Option Nat) (i : Nat) (d : Dn) : Prop := Nm d.act ∧ d.behind = !d.laid ∧
  ((d.laid = true ∧ (d.act.kind = 1 ∨ d.act.kind = 2) ∧ ∃ c s, c ∈ ch d.act.fld.toNat ∧ c.a = d.act ∧ fi c.r = some i ∧ Stm g c.r s d.point) ∨
   (d.laid = false ∧ (((d.act.kind = 0 ∨ d.act.kind = 3) ∧ AsOf g ch m d.act.fld.toNat d.point d.val) ∨ (d.act.kind = 2 ∧ ∃ v, AsOf g ch m d.act.fld.toNat d.point v ∧ v ≠ sl d.act.expect))))
structure Dk (g : Gs) (ch : Nat → List Lrw) (m : Int) (fi : Nat → Option Nat) (ds : List Dn) : Prop where
  e : ∀ i, i < ds.length → Dk1 g ch m fi i (ds.getD i dn0)
  f : ∀ r i, fi r = some i → i < ds.length ∧ (ds.getD i dn0).laid = true ∧ ∃ c s, c ∈ ch (ds.getD i dn0).act.fld.toNat ∧ c.r = r ∧ c.a = (ds.getD i dn0).act ∧ Stm g r s (ds.getD i dn0).point
theorem Dk1.ef {i : Nat} {d : Dn} (h : Dk1 g ch m fi i d) (e : Ef g nx ch m g' nx' ch' m' o) : Dk1 g' ch' m' fi i d := by
  obtain ⟨a, b, c⟩ := h
  refine ⟨a, b, ?_⟩
  rcases c with ⟨p, q, c, s, x, y, z, w⟩ | ⟨p, ⟨q, r⟩ | ⟨q, v, r, s⟩⟩
  · exact .inl ⟨p, q, c, s, e.mem x, y, z, e.kS _ _ _ w⟩
  · exact .inr ⟨p, .inl ⟨q, r.ef e⟩⟩
  · exact .inr ⟨p, .inr ⟨q, v, r.ef e, s⟩⟩
theorem Dk.ef (h : Dk g ch m fi ds) (e : Ef g nx ch m g' nx' ch' m' o) : Dk g' ch' m' fi ds :=
  ⟨fun i hi => (h.e i hi).ef e, fun r i hr => by
    obtain ⟨a, b, c, s, x, y, z, w⟩ := h.f r i hr
    exact ⟨a, b, c, s, e.mem x, y, z, e.kS _ _ _ w⟩⟩
theorem getD_app {l : List Dn} {d : Dn} {i : Nat} : (l ++ [d]).getD i dn0 = if i < l.length then l.getD i dn0 else if i = l.length then d else dn0 := by
  simp only [List.getD_eq_getElem?_getD]
  by_cases h : i < l.length
  · rw [if_pos h, List.getElem?_append_left h]
  · rw [if_neg h]
    by_cases e : i = l.length
    · subst e
      rw [if_pos rfl, List.getElem?_append_right (Nat.le_refl _)]
      simp
    · rw [if_neg e, List.getElem?_append_right (by omega)]
      rw [List.getElem?_eq_none (by simp; omega)]
      rfl
theorem Dk.push (h : Dk g ch m fi ds) {d : Dn} (hd : Dk1 g ch m fi ds.length d) : Dk g ch m fi (ds ++ [d]) := by
  refine ⟨fun i hi => ?_, fun r i hr => ?_⟩
  · rw [getD_app]
    simp at hi
    by_cases c : i < ds.length
    · rw [if_pos c]; exact h.e i c
    · obtain rfl : i = ds.length := by omega
      rw [if_neg c, if_pos rfl]; exact hd
  · obtain ⟨a, b⟩ := h.f r i hr
    rw [getD_app, if_pos a]
    exact ⟨by simp; omega, b⟩
/-- A record is laid, and told. -/
def fiPut (fi : Nat → Option Nat) (r i : Nat) : Nat → Option Nat := fun x => if x = r then some i else fi x
theorem fiPut_eq (fi : Nat → Option Nat) (r i : Nat) : fiPut fi r i r = some i := by unfold fiPut; rw [if_pos rfl]
theorem fiPut_ne {fi : Nat → Option Nat} {r i x : Nat} (h : x ≠ r) : fiPut fi r i x = fi x := by unfold fiPut; rw [if_neg h]
theorem Dk.lay (h : Dk g ch m fi ds) {d : Dn} {r s : Nat} {c : Lrw} (hr : fi r = none) (hl : d.laid = true) (hb : d.behind = !d.laid) (hf : Nm d.act) (hk : d.act.kind = 1 ∨ d.act.kind = 2) (hc : c ∈ ch d.act.fld.toNat) (hcr : c.r = r) (hca : c.a = d.act) (hs : Stm g r s d.point) :
    Dk g ch m (fiPut fi r ds.length) (ds ++ [d]) := by
  refine ⟨fun i hi => ?_, fun r' i hr' => ?_⟩
  · rw [getD_app]
    simp at hi
    by_cases e : i < ds.length
    · rw [if_pos e]
      obtain ⟨a, b, x⟩ := h.e i e
      refine ⟨a, b, ?_⟩
      rcases x with ⟨p, q, c', s', x, y, z, w⟩ | x
      · exact .inl ⟨p, q, c', s', x, y, by rw [fiPut_ne (fun e' => by rw [e', hr] at z; cases z)]; exact z, w⟩
      · exact .inr x
    · obtain rfl : i = ds.length := by omega
      rw [if_neg e, if_pos rfl]
      exact ⟨hf, hb, .inl ⟨hl, hk, c, s, hc, hca, by rw [hcr, fiPut_eq], by rw [hcr]; exact hs⟩⟩
  · rw [getD_app]
    by_cases e : r' = r
    · rw [e, fiPut_eq] at hr'
      cases hr'
      rw [if_neg (by omega), if_pos rfl, e]
      exact ⟨by simp, hl, c, s, hc, hcr, hca, hs⟩
    · rw [fiPut_ne e] at hr'
      obtain ⟨a, b⟩ := h.f r' i hr'
      rw [if_pos a]
      exact ⟨by simp; omega, b⟩
/-- The machine of a hand, under way. -/
def Mk (g : Gs) (nx : Nat) (ch : Nat → List Lrw) (m : Int) (fi : Nat → Option Nat) (a : Ac) (k : Nat) : Mc → Prop
  | .read r => a.kind = 0 ∧ Rk g ch m r a.fld.toNat k
  | .lay l => (a.kind = 1 ∨ a.kind = 2) ∧ Yk g nx ch m l a a.fld.toNat k ∧ fi l.fresh = none
  | .turn t => a.kind = 3 ∧ ∃ k2, Tk g t k2 ∧ k2 + 296 ≤ k
  | .see s n v l tp => a.kind = 3 ∧ l.length + 1 = n ∧ n ≤ 4 ∧ s.view = v ∧ (∀ j, j < l.length → AsOf g ch m (j % 2) tp (l.getD j 0)) ∧ ∃ k2, Ek g ch m s (l.length % 2) tp k2 ∧ k2 + 74 * (4 - n) ≤ k
def frm : Mc → Option Nat
  | .lay l => some l.fresh
  | _ => none
theorem Mk.ef {a : Ac} {mc : Mc} (h : Mk g nx ch m fi a k mc) (h0 : Sh g nx ch m) (h1 : Sh g' nx' ch' m') (e : Ef g nx ch m g' nx' ch' m' o) (hf : a.fld = 0 ∨ a.fld = 1) (ho : ∀ r, frm mc = some r → o ≠ some r) (hfi : ∀ r, frm mc = some r → fi' r = fi r) : Mk g' nx' ch' m' fi' a (k + 12 * (cnt ch' - cnt ch)) mc := by
  have hf2 : a.fld.toNat < 2 := by omega
  cases mc with
  | read r =>
    obtain ⟨h1, h2⟩ := h
    have := h2.ef e
    refine ⟨h1, ?_⟩
    rcases this with ⟨p, k', q, s⟩ | ⟨p, q, s, t⟩
    · exact .inl ⟨p, k', q, by omega⟩
    · exact .inr ⟨p, q, s, by omega⟩
  | lay l => exact ⟨h.1, h.2.1.ef h0 h1 e hf2 (ho _ rfl), by rw [hfi _ rfl]; exact h.2.2⟩
  | turn t =>
    obtain ⟨p, k2, q, r⟩ := h
    exact ⟨p, k2, q.ef e, by omega⟩
  | see s n v l tp =>
    obtain ⟨p, q, r, t, x, k2, y, z⟩ := h
    exact ⟨p, q, r, t, fun j hj => (x j hj).ef e, k2, y.ef h0 e, by omega⟩
theorem Mk.pos {a : Ac} {mc : Mc} (h : Mk g nx ch m fi a k mc) : 1 ≤ k := by
  cases mc with
  | read r =>
    obtain ⟨_, h2⟩ := h
    rcases h2 with ⟨p, k', q, s⟩ | ⟨p, q, s, t⟩ <;> omega
  | lay l =>
    obtain ⟨_, h2, _⟩ := h
    rcases h2 with ⟨_, s⟩ | ⟨_, _, s⟩
    · rcases s with ⟨p, q, r, s⟩ | ⟨p, on, k', q, r⟩ | ⟨p, q, r, s, t⟩ | ⟨p, q, r, s⟩ | ⟨p, q, r, s, z, k', t, u, v⟩ | ⟨p, q, r, s, t⟩ <;> omega
    · exact s.pos
  | turn t =>
    obtain ⟨p, k2, q, r⟩ := h
    omega
  | see s n v l tp =>
    obtain ⟨p, q, r, t, x, k2, y, z⟩ := h
    obtain ⟨_, _, y⟩ := y
    rcases y with ⟨p, k', a, b, c⟩ | ⟨p, n, c, t, st, b, q1, q2, q3, q4, q5⟩ | ⟨p, n, c, t, st, b, q1, q2, q3, q4, q5, q6⟩ | ⟨p, n, c, t, q1, q2, q3, q4⟩ <;> omega
theorem Se.step_view (s : Se) (B : Nat) (g : Gs) : (s.step KC B g).1.view = s.view := by
  unfold Se.step Se.goOn
  repeat' split
  all_goals rfl
/-- What a step of a hand's machine comes to. -/
def Mnext (u : Wl) (ch : Nat → List Lrw) (m : Int) (fi : Nat → Option Nat) (a : Ac) (k : Nat) (mc : Mc) (x : Option Mc × Wl) : Prop :=
  x.2.next = u.next ∧ x.2.bad = u.bad ∧ (u.g.T ≤ x.2.g.T ∧ x.2.g.T ≤ u.g.T + 1) ∧ x.2.done.length ≤ u.done.length + 4 ∧ ∃ ch' fi', Sh x.2.g u.next ch' u.g.k.now ∧ Ef u.g u.next ch m x.2.g u.next ch' u.g.k.now (frm mc) ∧ Dk x.2.g ch' u.g.k.now fi' x.2.done ∧ (∀ r, frm mc ≠ some r → fi' r = fi r) ∧
    (∀ f c, c ∈ ch' f → c ∈ ch f ∨ frm mc = some c.r) ∧
    ((x.1 = none ∧ (∀ r, frm mc = some r → ∀ f c, c ∈ ch' f → c.r = r → fi' r ≠ none)) ∨ ∃ mc', x.1 = some mc' ∧ 2 ≤ k ∧ Mk x.2.g u.next ch' u.g.k.now fi' a (k - 1) mc' ∧ frm mc' = frm mc)
theorem mk_step {u : Wl} {a : Ac} {mc : Mc} (h : Sh u.g u.next ch m) (hd : Dk u.g ch m fi u.done) (hk : Mk u.g u.next ch m fi a k mc) (hN : Nm a) (hm : m < u.g.k.now) (hT : u.g.T < 4611686018427387904) (B Q : Nat) : Mnext u ch m fi a k mc (mstep B Q a mc u) := by
  have hf := hN.1
  have hf2 : a.fld.toNat < 2 := by omega
  cases mc with
  | read r =>
    obtain ⟨k0, rk⟩ := hk
    obtain ⟨sh, ef, c⟩ := rk_step h rk hf2 hm B
    have hTs := r.step_T KC B u.g
    unfold mstep
    rcases c with ⟨p, q⟩ | ⟨p, h2, q⟩
    · simp only [p, if_true]
      exact ⟨rfl, rfl, hTs, by simp, ch, fi, sh, ef _, (hd.ef (ef none)).push ⟨hN, rfl, .inr ⟨rfl, .inl ⟨.inl k0, q⟩⟩⟩, fun _ _ => rfl, fun _ _ x => .inl x, .inl ⟨rfl, fun r hr => by cases hr⟩⟩
    · simp only [p, if_false]
      exact ⟨rfl, rfl, hTs, by simp, ch, fi, sh, ef _, hd.ef (ef none), fun _ _ => rfl, fun _ _ x => .inl x, .inr ⟨_, rfl, h2, ⟨k0, q⟩, rfl⟩⟩
  | lay l =>
    obtain ⟨k0, yk, hfi⟩ := hk
    obtain ⟨hfr, ch', sh, ef, hin, c⟩ := yk_step h yk hf2 hm B Q
    have hTs := l.step_T KC B Q u.g
    unfold mstep
    rcases c with ⟨p, q⟩ | ⟨p, h2, q⟩
    · simp only [p, if_true]
      have hin' : ∀ f c, c ∈ ch' f → c ∈ ch f ∨ frm (.lay l) = some c.r := fun f c hc => by
        rcases hin f c hc with x | ⟨x, _⟩
        · exact .inl x
        · exact .inr (by rw [x]; rfl)
      rcases q with ⟨q1, ⟨c, q2, q3, q4⟩, s, q5⟩ | ⟨q1, q2, q3, v, q4, q5⟩
      · rw [hfr] at q3 q5
        simp only [q1]
        refine ⟨rfl, rfl, hTs, by simp, ch', fiPut fi l.fresh u.done.length, sh, ef, (hd.ef ef).lay (c := c) (s := s) hfi rfl rfl hN k0 q2 q3 q4 q5, fun r hr => fiPut_ne (fun e => hr (by rw [e]; rfl)), hin', .inl ⟨rfl, fun r hr f c _ _ => ?_⟩⟩
        cases hr
        rw [fiPut_eq]
        simp
      · simp only [q1]
        refine ⟨rfl, rfl, hTs, by simp, ch', fi, sh, ef, (hd.ef ef).push ⟨hN, rfl, .inr ⟨rfl, .inr ⟨q2, v, q4, q5⟩⟩⟩, fun _ _ => rfl, hin', .inl ⟨rfl, fun r hr f c hc e => ?_⟩⟩
        cases hr
        rw [hfr] at q3
        exact absurd e (q3 f c hc)
    · simp only [p, if_false]
      refine ⟨rfl, rfl, hTs, by simp, ch', fi, sh, ef, hd.ef ef, fun _ _ => rfl, fun f c hc => ?_, .inr ⟨_, rfl, h2, ⟨k0, q, by rw [hfr]; exact hfi⟩, by show some _ = some _; rw [hfr]⟩⟩
      rcases hin f c hc with x | ⟨x, _⟩
      · exact .inl x
      · exact .inr (by rw [x]; rfl)
  | turn t =>
    obtain ⟨k0, k2, tk, hk⟩ := hk
    obtain ⟨sh, ef, c⟩ := tk_step h tk hm hT
    have hTs := t.step_T u.g
    unfold mstep
    have hk1 : 1 ≤ k2 := by rcases tk with x | x <;> omega
    rcases c with ⟨p, q⟩ | ⟨p, h2, q⟩
    · simp only [p, if_true]
      refine ⟨rfl, rfl, hTs, by simp, ch, fi, sh, ef _, hd.ef (ef none), fun _ _ => rfl, fun _ _ x => .inl x, .inr ⟨_, rfl, by omega, ⟨k0, rfl, by omega, rfl, fun j hj => by simp at hj, 74, ⟨rfl, q, .inl ⟨rfl, 4, ⟨rfl, .inl ⟨rfl, Nat.le_refl _⟩⟩, fun x => (by cases x), by omega⟩⟩, by omega⟩, rfl⟩⟩
    · simp only [p, if_false]
      exact ⟨rfl, rfl, hTs, by simp, ch, fi, sh, ef _, hd.ef (ef none), fun _ _ => rfl, fun _ _ x => .inl x, .inr ⟨_, rfl, by omega, ⟨k0, k2 - 1, q, by omega⟩, rfl⟩⟩
  | see s n v l tp =>
    obtain ⟨k0, hn, hn4, hv, hl, k2, ek, hk⟩ := hk
    have hl2 : l.length % 2 < 2 := by omega
    obtain ⟨sh, ef, c⟩ := ek_step h ek hl2 hm B
    have hTs := s.step_T KC B u.g
    have hvw := s.step_view B u.g
    have hp1 : 1 ≤ k2 := by
      obtain ⟨_, _, y⟩ := ek
      rcases y with ⟨p, k', a, b, c⟩ | ⟨p, n, c, t, st, b, q1, q2, q3, q4, q5⟩ | ⟨p, n, c, t, st, b, q1, q2, q3, q4, q5, q6⟩ | ⟨p, n, c, t, q1, q2, q3, q4⟩ <;> omega
    have hl' : ∀ z, AsOf (s.step KC B u.g).2 ch u.g.k.now (l.length % 2) tp z → ∀ j, j < (l ++ [z]).length → AsOf (s.step KC B u.g).2 ch u.g.k.now (j % 2) tp ((l ++ [z]).getD j 0) := fun z hz j hj => by
      simp at hj
      simp only [List.getD_eq_getElem?_getD]
      by_cases e : j < l.length
      · rw [List.getElem?_append_left e]
        have := (hl j e).ef (ef none)
        simpa only [List.getD_eq_getElem?_getD] using this
      · obtain rfl : j = l.length := by omega
        rw [List.getElem?_append_right (Nat.le_refl _)]
        simpa using hz
    unfold mstep
    rcases c with ⟨p, q⟩ | ⟨p, h2, q⟩
    · simp only [p, if_true]
      have hz := hl' _ q
      by_cases e : n = 4
      · simp only [e, if_true]
        have hlen : (l ++ [(s.step KC B u.g).1.val]).length = 4 := by simp; omega
        have d0 := hd.ef (ef none)
        have p4 : ∀ (j : Nat) (ds : List Dn), j < 4 → Dk1 (s.step KC B u.g).2 ch u.g.k.now fi ds.length ⟨tp, true, ⟨3, ((j % 2 : Nat) : Int), 0, 0⟩, (l ++ [(s.step KC B u.g).1.val]).getD j 0, false⟩ := fun j ds hj => ⟨⟨by show ((j % 2 : Nat) : Int) = 0 ∨ ((j % 2 : Nat) : Int) = 1; omega, by show (0 : Int) ≤ 3; omega, by show (0 : Int) ≤ 3; omega⟩, rfl, .inr ⟨rfl, .inl ⟨.inr rfl, by show AsOf _ _ _ (((j % 2 : Nat) : Int)).toNat _ _; rw [Int.toNat_natCast]; exact hz j (by omega)⟩⟩⟩
        have d1 := (((d0.push (p4 0 _ (by omega))).push (p4 1 _ (by omega))).push (p4 2 _ (by omega))).push (p4 3 _ (by omega))
        refine ⟨rfl, rfl, hTs, by simp [four], ch, fi, sh, ef _, ?_, fun _ _ => rfl, fun _ _ x => .inl x, .inl ⟨rfl, fun r hr => by cases hr⟩⟩
        simpa [four] using d1
      · simp only [e, if_false]
        refine ⟨rfl, rfl, hTs, by simp, ch, fi, sh, ef _, hd.ef (ef none), fun _ _ => rfl, fun _ _ x => .inl x, .inr ⟨_, rfl, by omega, ⟨k0, by simp; omega, by omega, rfl, hz, 74, ⟨rfl, ?_, .inl ⟨rfl, 4, ⟨?_, .inl ⟨rfl, Nat.le_refl _⟩⟩, fun x => (by cases x), by omega⟩⟩, by omega⟩, rfl⟩⟩
        · show (s.step KC B u.g).2.k.turned v = some tp
          rw [← hv]
          exact (ef none).tu _ _ ek.2.1
        · show KC.bd 0 (n % 2) = KC.bd 0 ((l ++ [(s.step KC B u.g).1.val]).length % 2)
          simp [← hn]
    · simp only [p, if_false]
      exact ⟨rfl, rfl, hTs, by simp, ch, fi, sh, ef _, hd.ef (ef none), fun _ _ => rfl, fun _ _ x => .inl x, .inr ⟨_, rfl, by omega, ⟨k0, hn, hn4, by rw [hvw]; exact hv, fun j hj => (hl j hj).ef (ef none), k2 - 1, q, by omega⟩, rfl⟩⟩
end
end Go.Proofs.YtnegdabcjnhpdaaDoor
/- All hands, step by step: no world in sight. -/
namespace Go.Proofs.YtnegdabcjnhpdaaDoor
open Go.RowKit
section
variable {g g' : Gs} {nx nx' : Nat} {ch ch' : Nat → List Lrw} {m m' : Int} {o : Option Nat} {k : Nat} {fi fi' : Nat → Option Nat} {ds : List Dn}
/-- The record that a hand has for itself, or lays. -/
def hfr (h : Hn) : Option Nat := match h.cur with | some (_, mc) => frm mc | none => none
/-- A hand under way, with so many steps left at most. -/
def Hk (g : Gs) (nx : Nat) (ch : Nat → List Lrw) (m : Int) (fi : Nat → Option Nat) (h : Hn) (k : Nat) : Prop := match h.cur with
  | none => 298 * h.acts.length ≤ k
  | some (a, mc) => Nm a ∧ ∃ k', Mk g nx ch m fi a k' mc ∧ k' + 298 * h.acts.length ≤ k
theorem Hk.ef {h : Hn} (hk : Hk g nx ch m fi h k) (h0 : Sh g nx ch m) (h1 : Sh g' nx' ch' m') (e : Ef g nx ch m g' nx' ch' m' o) (ho : ∀ r, hfr h = some r → o ≠ some r) (hfi : ∀ r, hfr h = some r → fi' r = fi r) : Hk g' nx' ch' m' fi' h (k + 12 * (cnt ch' - cnt ch)) := by
  obtain ⟨acts, cur⟩ := h
  cases cur with
  | none =>
    have hk' : 298 * acts.length ≤ k := hk
    show 298 * acts.length ≤ _
    omega
  | some x =>
    obtain ⟨a, mc⟩ := x
    obtain ⟨hf, k', h2, h3⟩ := hk
    exact ⟨hf, _, h2.ef h0 h1 e hf.1 ho hfi, by show _ + 298 * acts.length ≤ _; replace h3 : k' + 298 * acts.length ≤ k := h3; omega⟩
def Hn.over (h : Hn) : Prop := h.cur = none ∧ h.acts = []
/-- What a hand's step comes to. -/
def Hnext (u : Wl) (ch : Nat → List Lrw) (m : Int) (fi : Nat → Option Nat) (h : Hn) (k : Nat) (x : Hn × Wl) : Prop :=
  x.2.bad = u.bad ∧ (u.g.T ≤ x.2.g.T ∧ x.2.g.T ≤ u.g.T + 2) ∧ x.2.done.length ≤ u.done.length + 4 ∧
  ∃ ch' fi' o, Sh x.2.g x.2.next ch' u.g.k.now ∧ Ef u.g u.next ch m x.2.g x.2.next ch' u.g.k.now o ∧ Dk x.2.g ch' u.g.k.now fi' x.2.done ∧ ((hfr h = none ∧ (o = none ∨ o = some u.next)) ∨ o = hfr h) ∧ (∀ r, o ≠ some r → fi' r = fi r) ∧
    (∀ f c, c ∈ ch' f → c ∈ ch f ∨ o = some c.r) ∧ (∃ k', k' + 1 ≤ k ∧ Hk x.2.g x.2.next ch' u.g.k.now fi' x.1 k') ∧ (∀ r, hfr x.1 = some r → o = some r ∧ r < x.2.next) ∧
    (∀ r, o = some r → hfr x.1 = some r ∨ ∀ f c, c ∈ ch' f → c.r = r → fi' r ≠ none)
theorem fin_step {u u1 : Wl} {a : Ac} {acts : List Ac} {mc : Mc} {h : Hn} {k1 : Nat} {x : Option Mc × Wl} (hb : u1.bad = u.bad) (hT : u.g.T ≤ u1.g.T ∧ u1.g.T ≤ u.g.T + 1) (hd : u1.done = u.done) (hnow : u1.g.k.now = u.g.k.now)
    (e1 : Ef u.g u.next ch m u1.g u1.next ch m (frm mc)) (ho : (hfr h = none ∧ (frm mc = none ∨ frm mc = some u.next)) ∨ frm mc = hfr h) (hfl : ∀ r, frm mc = some r → r < u1.next) (hf : Nm a) (mn : Mnext u1 ch m fi a k1 mc x) (hk : k1 + 298 * acts.length ≤ k) (hk1 : 1 ≤ k1) : Hnext u ch m fi h k (fin a acts u1.g.T x) := by
  obtain ⟨n1, n2, n3, n4, ch', fi', sh, ef, dk, hfi, hin, c⟩ := mn
  rw [hnow] at sh ef dk c
  refine ⟨?_, ?_, ?_, ch', fi', frm mc, ?_, ?_, dk, ho, hfi, hin, ?_, ?_, ?_⟩
  · show (x.2.bad || decide (u1.g.T + 1 < x.2.g.T)) = u.bad
    rw [decide_eq_false (by omega), Bool.or_false, n2, hb]
  · show u.g.T ≤ x.2.g.T ∧ x.2.g.T ≤ u.g.T + 2
    omega
  · show x.2.done.length ≤ _
    rw [hd] at n4; exact n4
  · show Sh x.2.g x.2.next ch' u.g.k.now
    rw [n1]; exact sh
  · show Ef u.g u.next ch m x.2.g x.2.next ch' u.g.k.now _
    rw [n1]; exact e1.trans ef
  · rcases c with ⟨c1, c2⟩ | ⟨mc', c1, c2, c3, c4⟩
    · refine ⟨298 * acts.length, by omega, ?_⟩
      show Hk x.2.g x.2.next ch' u.g.k.now fi' ⟨acts, x.1.map fun m => (a, m)⟩ _
      rw [c1]
      exact Nat.le_refl _
    · refine ⟨k1 - 1 + 298 * acts.length, by omega, ?_⟩
      show Hk x.2.g x.2.next ch' u.g.k.now fi' ⟨acts, x.1.map fun m => (a, m)⟩ _
      rw [c1, n1]
      exact ⟨hf, k1 - 1, c3, Nat.le_refl _⟩
  · intro r hr
    replace hr : hfr ⟨acts, x.1.map fun m => (a, m)⟩ = some r := hr
    rcases c with ⟨c1, c2⟩ | ⟨mc', c1, c2, c3, c4⟩
    · rw [c1] at hr; cases hr
    · rw [c1] at hr
      replace hr : frm mc' = some r := hr
      rw [c4] at hr
      exact ⟨hr, by show r < x.2.next; rw [n1]; exact hfl r hr⟩
  · intro r hr
    show hfr ⟨acts, x.1.map fun m => (a, m)⟩ = some r ∨ _
    rcases c with ⟨c1, c2⟩ | ⟨mc', c1, c2, c3, c4⟩
    · exact .inr (c2 r hr)
    · left
      rw [c1]
      show frm mc' = some r
      rw [c4]; exact hr
theorem Mk.fl {a : Ac} {mc : Mc} (h : Mk g nx ch m fi a k mc) (sh : Sh g nx ch m) {r : Nat} (hr : frm mc = some r) : r < nx := by
  cases mc with
  | lay l =>
    cases hr
    obtain ⟨_, h2, _⟩ := h
    rcases h2 with ⟨x, _⟩ | ⟨_, ⟨c, x, y, _⟩, _⟩
    · exact x.fr.2
    · have := (sh.rw _ c x).2.1; omega
  | read r => cases hr
  | turn t => cases hr
  | see s n v l tp => cases hr
theorem hn_step {u : Wl} {h : Hn} (hno : ¬ h.over) (sh : Sh u.g u.next ch m) (dk : Dk u.g ch m fi u.done) (hk : Hk u.g u.next ch m fi h k) (hm : m < u.g.k.now) (hT : u.g.T + 1 < 4611686018427387904) (B Q : Nat) : Hnext u ch m fi h k (h.step B Q u) := by
  obtain ⟨acts, cur⟩ := h
  cases cur with
  | some x =>
    obtain ⟨a, mc⟩ := x
    obtain ⟨hf, k', h2, h3⟩ := hk
    exact fin_step rfl ⟨Int.le_refl _, by omega⟩ rfl rfl (Ef.refl (Int.le_refl _) _) (.inr rfl) (fun r hr => h2.fl sh hr) hf (mk_step sh dk h2 hf hm (by omega) B Q) h3 h2.pos
  | none =>
    cases acts with
    | nil => exact absurd ⟨rfl, rfl⟩ hno
    | cons a0 r =>
      have hk' : 298 * (r.length + 1) ≤ k := hk
      have b4 := pk_b a0.kind (n := 4) (by omega)
      have b2 := pk_b a0.fld (n := 2) (by omega)
      have b5 := pk_b a0.val (n := 5) (by omega)
      have hnx := sh.hnx
      have b6 := pk_b a0.expect (n := 5) (by omega)
      have hf : Nm (a0.norm u.next) := ⟨by show pk a0.fld 2 = 0 ∨ pk a0.fld 2 = 1; omega, by show pk a0.val 5 - 1 ≤ 3; omega, by show pk a0.expect 5 - 1 ≤ 3; omega⟩
      have hv : -1 ≤ (a0.norm u.next).val ∧ (a0.norm u.next).val ≤ 3 := by show -1 ≤ pk a0.val 5 - 1 ∧ pk a0.val 5 - 1 ≤ 3; omega
      have hkd : (a0.norm u.next).kind = 0 ∨ (a0.norm u.next).kind = 3 ∨ ((a0.norm u.next).kind = 1 ∨ (a0.norm u.next).kind = 2) ∧ u.next < 40 := by
        show (if (pk a0.kind 4 = 1 ∨ pk a0.kind 4 = 2) ∧ 40 ≤ u.next then (0 : Int) else pk a0.kind 4) = 0 ∨ (if (pk a0.kind 4 = 1 ∨ pk a0.kind 4 = 2) ∧ 40 ≤ u.next then (0 : Int) else pk a0.kind 4) = 3 ∨ ((if (pk a0.kind 4 = 1 ∨ pk a0.kind 4 = 2) ∧ 40 ≤ u.next then (0 : Int) else pk a0.kind 4) = 1 ∨ (if (pk a0.kind 4 = 1 ∨ pk a0.kind 4 = 2) ∧ 40 ≤ u.next then (0 : Int) else pk a0.kind 4) = 2) ∧ u.next < 40
        split <;> omega
      show Hnext u ch m fi ⟨a0 :: r, none⟩ k (fin (a0.norm u.next) r (beg (a0.norm u.next) u).2.g.T (mstep B Q (a0.norm u.next) (beg (a0.norm u.next) u).1 (beg (a0.norm u.next) u).2))
      generalize a0.norm u.next = a at *
      rcases hkd with e | e | ⟨e, h40⟩
      · have hbg : beg a u = (.read ⟨-1, -1, 0, nw0 (KC.bd 0 a.fld.toNat), 0⟩, u) := by unfold beg; rw [if_pos e]
        rw [hbg]
        have mk : Mk u.g u.next ch m fi a 298 (.read ⟨-1, -1, 0, nw0 (KC.bd 0 a.fld.toNat), 0⟩) := ⟨e, .inl ⟨rfl, 4, ⟨rfl, .inl ⟨rfl, Nat.le_refl _⟩⟩, by omega⟩⟩
        exact fin_step (u1 := u) (k1 := 298) rfl ⟨Int.le_refl _, by omega⟩ rfl rfl (Ef.refl (Int.le_refl _) _) (.inl ⟨rfl, .inl rfl⟩) (fun r hr => by cases hr) hf (mk_step sh dk mk hf hm (by omega) B Q) (by omega) (by omega)
      · have hbg : beg a u = (.turn ⟨0, 0, 0, 0⟩, u) := by unfold beg; rw [if_neg (by omega), if_pos e]
        rw [hbg]
        have mk : Mk u.g u.next ch m fi a 298 (.turn ⟨0, 0, 0, 0⟩) := ⟨e, 2, .inl ⟨rfl, Nat.le_refl _⟩, by omega⟩
        exact fin_step (u1 := u) (k1 := 298) rfl ⟨Int.le_refl _, by omega⟩ rfl rfl (Ef.refl (Int.le_refl _) _) (.inl ⟨rfl, .inl rfl⟩) (fun r hr => by cases hr) hf (mk_step sh dk mk hf hm (by omega) B Q) (by omega) (by omega)
      · have hbg : beg a u = (.lay ⟨false, 0, nw0 (KC.bd 0 a.fld.toNat), u.next, if a.kind = 2 then sl a.expect else -2, 2, none, 0⟩, (⟨⟨u.g.X.set (KC.bd u.next 0) (sl a.val + 1).toNat, u.g.T + 1, u.g.k⟩, u.next + 1, u.done, u.bad⟩ : Wl)) := by unfold beg; rw [if_neg (by omega), if_neg (by omega)]
        rw [hbg]
        have hout : Out ch u.next := fun f c hc => by have := (sh.rw f c hc).2.1; omega
        have sh1 : Sh (⟨u.g.X.set (KC.bd u.next 0) (sl a.val + 1).toNat, u.g.T + 1, u.g.k⟩ : Gs) (u.next + 1) ch m := sh.store (by omega) (Int.le_refl _) (by rw [KC_bd]; omega) (fun i hi => by rw [KC_bd, KC_bd]; omega) (fun r => by rw [KC_bd, KC_bd]; omega) (fun f c hc => by have := hout f c hc; rw [KC_bd, KC_bd, KC_bd]; omega) (fun s _ _ x => by rw [KC_bd, KC_hd] at x; omega) (by omega)
        have ef1 : Ef u.g u.next ch m (⟨u.g.X.set (KC.bd u.next 0) (sl a.val + 1).toNat, u.g.T + 1, u.g.k⟩ : Gs) (u.next + 1) ch m (some u.next) := Ef.store sh.len (Int.le_refl _) (by rw [KC_bd]; omega) (fun r => by rw [KC_bd, KC_bd]; omega) (fun r _ hr _ _ => by rw [KC_bd, KC_bd, KC_bd]; omega) (fun s _ _ x => by rw [KC_bd, KC_hd] at x; omega) (by omega)
        have hfi : fi u.next = none := by
          cases hx : fi u.next with
          | none => rfl
          | some i =>
            obtain ⟨_, _, c, s, x, y, _⟩ := dk.f _ _ hx
            exact absurd y (hout _ c x)
        have hsl : 0 ≤ sl a.val + 1 ∧ sl a.val + 1 ≤ 5 := by unfold sl; split <;> omega
        have yk : Yk (⟨u.g.X.set (KC.bd u.next 0) (sl a.val + 1).toNat, u.g.T + 1, u.g.k⟩ : Gs) (u.next + 1) ch m ⟨false, 0, nw0 (KC.bd 0 a.fld.toNat), u.next, if a.kind = 2 then sl a.expect else -2, 2, none, 0⟩ a a.fld.toNat 298 := by
          have hf1 := hf.1
          refine .inl ⟨⟨hout, by show 5 ≤ u.next ∧ u.next < u.next + 1; omega, ?_, by omega, ?_, rfl, rfl⟩, .inl ⟨rfl, rfl, rfl, by omega⟩⟩
          · show nm KC ((u.g.X.set (KC.bd u.next 0) (sl a.val + 1).toNat).getD (KC.bd u.next 0) 0) = sl a.val
            rw [getD_set_eq (by rw [sh.len, KC_bd]; omega)]
            unfold nm
            rw [if_pos (by show (sl a.val + 1).toNat ≤ 40; omega)]
            omega
          · rcases e with e | e
            · exact .inl ⟨e, by show (if a.kind = 2 then sl a.expect else -2) = -2; rw [if_neg (by omega)]⟩
            · exact .inr ⟨e, by show (if a.kind = 2 then sl a.expect else -2) = _; rw [if_pos e]⟩
        have mk : Mk (⟨u.g.X.set (KC.bd u.next 0) (sl a.val + 1).toNat, u.g.T + 1, u.g.k⟩ : Gs) (u.next + 1) ch m fi a 298 (.lay ⟨false, 0, nw0 (KC.bd 0 a.fld.toNat), u.next, if a.kind = 2 then sl a.expect else -2, 2, none, 0⟩) := ⟨e, yk, hfi⟩
        generalize hu1 : (⟨⟨u.g.X.set (KC.bd u.next 0) (sl a.val + 1).toNat, u.g.T + 1, u.g.k⟩, u.next + 1, u.done, u.bad⟩ : Wl) = u1
        have w1 : u1.g = ⟨u.g.X.set (KC.bd u.next 0) (sl a.val + 1).toNat, u.g.T + 1, u.g.k⟩ := by rw [← hu1]
        have w2 : u1.next = u.next + 1 := by rw [← hu1]
        have w3 : u1.done = u.done := by rw [← hu1]
        have w4 : u1.bad = u.bad := by rw [← hu1]
        rw [← w1] at mk ef1 sh1
        rw [← w2] at mk ef1 sh1
        have dk1 : Dk u1.g ch m fi u1.done := by rw [w3]; exact dk.ef ef1
        show Hnext u ch m fi ⟨a0 :: r, none⟩ k (fin a r u1.g.T (mstep B Q a (.lay ⟨false, 0, nw0 (KC.bd 0 a.fld.toNat), u.next, if a.kind = 2 then sl a.expect else -2, 2, none, 0⟩) u1))
        exact fin_step (u1 := u1) (k1 := 298) (mc := .lay ⟨false, 0, nw0 (KC.bd 0 a.fld.toNat), u.next, if a.kind = 2 then sl a.expect else -2, 2, none, 0⟩) w4 (by rw [w1]; exact ⟨by show u.g.T ≤ u.g.T + 1; omega, Int.le_refl _⟩) w3 (by rw [w1]) ef1 (.inl ⟨rfl, .inr rfl⟩) (fun r hr => by cases hr; show u.next < _; omega) hf (mk_step sh1 dk1 mk hf (by rw [w1]; exact hm) (by rw [w1]; show u.g.T + 1 < _; omega) B Q) (by omega) (by omega)
theorem Ef.at (now : Int) (o : Option Nat) : Ef g nx ch m { g with k := { g.k with now := now } } nx ch m o :=
  ⟨Int.le_refl _, Nat.le_refl _, fun f => ⟨[], rfl, fun c h => by cases h⟩, fun _ _ _ h => h, fun _ _ h => h, fun _ _ h => h, Nat.le_refl _, fun _ _ _ _ h => ⟨rfl, rfl, h⟩, fun _ _ _ h => h⟩
theorem Sh.at (h : Sh g nx ch m) (now : Int) : Sh { g with k := { g.k with now := now } } nx ch m :=
  ⟨h.len, h.hnx, h.m0, h.clk, h.t1, h.t2, h.b0, h.link, h.rw, h.nd, h.ord, h.st, h.prv, h.ex, h.hd⟩
/-- All hands: bs tells how many steps each has left at most. -/
structure Pw (u : Wl) (hs : List Hn) (ch : Nat → List Lrw) (fi : Nat → Option Nat) (m : Int) (bs : Nat → Nat) : Prop where
  sh : Sh u.g u.next ch m
  dk : Dk u.g ch m fi u.done
  hk : ∀ (i : Nat) (h : Hn), hs[i]? = some h → h.over ∨ ∃ k, Hk u.g u.next ch m fi h k ∧ k + 12 * (35 - cnt ch) ≤ bs i
  fr : ∀ (i j : Nat) (h h' : Hn) (r : Nat), i ≠ j → hs[i]? = some h → hs[j]? = some h' → hfr h = some r → hfr h' ≠ some r
  fl : ∀ (i : Nat) (h : Hn) (r : Nat), hs[i]? = some h → hfr h = some r → r < u.next
  op : ∀ f c, c ∈ ch f → fi c.r = none → ∃ (i : Nat) (h : Hn), hs[i]? = some h ∧ hfr h = some c.r
  bad : u.bad = false
theorem Hn.over_step {h : Hn} (ho : h.over) (B Q : Nat) (u : Wl) : h.step B Q u = (h, u) := by
  obtain ⟨acts, cur⟩ := h
  obtain ⟨h1, h2⟩ := ho
  replace h1 : cur = none := h1
  replace h2 : acts = [] := h2
  subst h1 h2
  rfl
theorem over_fr {h : Hn} (ho : h.over) : hfr h = none := by unfold hfr; rw [ho.1]
theorem Pw.step {u : Wl} {hs : List Hn} {bs : Nat → Nat} (p : Pw u hs ch fi m bs) {i : Nat} {h : Hn} (hi : hs[i]? = some h) {now : Int} (hm : m < now) (hT : u.g.T + 1 < 4611686018427387904) (B Q : Nat) :
    (u.g.T ≤ (h.step B Q (u.at now)).2.g.T ∧ (h.step B Q (u.at now)).2.g.T ≤ u.g.T + 2) ∧ (h.step B Q (u.at now)).2.done.length ≤ u.done.length + 4 ∧
      ∃ ch' fi', Pw (h.step B Q (u.at now)).2 (hs.set i (h.step B Q (u.at now)).1) ch' fi' now (fun j => if j = i then bs i - 1 else bs j) := by
  have hil : i < hs.length := (List.getElem?_eq_some_iff.1 hi).1
  have sh0 : Sh (u.at now).g (u.at now).next ch m := p.sh.at now
  have e0 : ∀ o, Ef u.g u.next ch m (u.at now).g (u.at now).next ch m o := Ef.at now
  have dk0 : Dk (u.at now).g ch m fi (u.at now).done := p.dk.ef (e0 none)
  have hset : ∀ (j : Nat) (h' : Hn), (hs.set i (h.step B Q (u.at now)).1)[j]? = some h' → (j = i ∧ h' = (h.step B Q (u.at now)).1) ∨ (j ≠ i ∧ hs[j]? = some h') := fun j h' hj => by
    rw [List.getElem?_set] at hj
    by_cases e : i = j
    · subst e
      rw [if_pos rfl, if_pos hil] at hj
      exact .inl ⟨rfl, by simpa using hj.symm⟩
    · rw [if_neg e] at hj
      exact .inr ⟨Ne.symm e, hj⟩
  by_cases ho : h.over
  · rw [Hn.over_step ho] at hset ⊢
    have e1 : Ef u.g u.next ch m (u.at now).g u.next ch now none := (e0 none).trans (Ef.refl (by omega) _)
    have sh1 : Sh (u.at now).g (u.at now).next ch now := by
      have := sh0.quiet (T := (u.at now).g.T) (Int.le_refl _) (show m ≤ now by omega)
      exact this
    refine ⟨⟨Int.le_refl _, by show u.g.T ≤ u.g.T + 2; omega⟩, by show u.done.length ≤ _; omega, ch, fi, sh1, p.dk.ef e1, fun j h' hj => ?_, fun j1 j2 h1 h2 r hne q1 q2 q3 => ?_, fun j h' r hj hr => ?_, fun f c hc hn => ?_, p.bad⟩
    · rcases hset j h' hj with ⟨rfl, rfl⟩ | ⟨e, hj⟩
      · exact .inl ho
      · simp only [e, if_false]
        rcases p.hk j h' hj with x | ⟨k, x, y⟩
        · exact .inl x
        · refine .inr ⟨_, x.ef p.sh sh1 e1 (fun r _ => by simp) (fun r _ => rfl), by omega⟩
    · rcases hset j1 h1 q1 with ⟨rfl, rfl⟩ | ⟨_, q1⟩
      · rw [over_fr ho] at q3; cases q3
      · rcases hset j2 h2 q2 with ⟨rfl, rfl⟩ | ⟨_, q2⟩
        · rw [over_fr ho]; simp
        · exact p.fr j1 j2 h1 h2 r hne q1 q2 q3
    · rcases hset j h' hj with ⟨rfl, rfl⟩ | ⟨_, hj⟩
      · rw [over_fr ho] at hr; cases hr
      · exact p.fl j h' r hj hr
    · obtain ⟨j, h', q1, q2⟩ := p.op f c hc hn
      refine ⟨j, h', ?_, q2⟩
      rw [List.getElem?_set]
      by_cases e : i = j
      · subst e
        rw [hi] at q1
        cases q1
        rw [over_fr ho] at q2; cases q2
      · rw [if_neg e]; exact q1
  · obtain ⟨k, hk, hkb⟩ := (p.hk i h hi).resolve_left ho
    have hk0 : Hk (u.at now).g (u.at now).next ch m fi h k := by
      have := hk.ef (fi' := fi) p.sh sh0 (e0 none) (fun r _ => by simp) (fun r _ => rfl)
      simpa using this
    have hn := hn_step ho sh0 dk0 hk0 hm hT B Q
    generalize h.step B Q (u.at now) = x at *
    obtain ⟨h', u'⟩ := x
    obtain ⟨n1, n2, n3, ch', fi', o, sh, ef, dk, hoo, hfi, hin, ⟨k', hk1, hk2⟩, hf1, hf2⟩ := hn
    simp only at n1 n2 n3 sh ef dk hk2 hf1 hf2 hset
    have efu : Ef u.g u.next ch m u'.g u'.next ch' now o := (e0 o).trans ef
    have hcn := efu.cnt_le
    have hc35 := sh.cnt
    -- another one's record is not this one's
    have oth : ∀ (j : Nat) (h2 : Hn) (r : Nat), j ≠ i → hs[j]? = some h2 → hfr h2 = some r → o ≠ some r := fun j h2 r hne hj hr ho => by
      rcases hoo with ⟨_, x | x⟩ | x
      · rw [x] at ho; cases ho
      · rw [x] at ho
        have := p.fl j h2 r hj hr
        cases ho
        exact absurd this (Nat.lt_irrefl _)
      · rw [x] at ho
        exact p.fr j i h2 h r hne hj hi hr ho
    refine ⟨n2, n3, ch', fi', sh, dk, fun j h2 hj => ?_, fun j1 j2 h1 h2 r hne q1 q2 q3 => ?_, fun j h2 r hj hr => ?_, fun f c hc hn => ?_, n1.trans p.bad⟩
    · rcases hset j h2 hj with ⟨rfl, rfl⟩ | ⟨e, hj⟩
      · simp only [if_true]
        exact .inr ⟨k', hk2, by omega⟩
      · simp only [e, if_false]
        rcases p.hk j h2 hj with x | ⟨k2, x, y⟩
        · exact .inl x
        · exact .inr ⟨_, x.ef p.sh sh efu (fun r hr => oth j h2 r e hj hr) (fun r hr => hfi r (oth j h2 r e hj hr)), by omega⟩
    · rcases hset j1 h1 q1 with ⟨rfl, rfl⟩ | ⟨e1, q1'⟩
      · rcases hset j2 h2 q2 with ⟨rfl, rfl⟩ | ⟨e2, q2'⟩
        · exact absurd rfl hne
        · exact fun hx => oth j2 h2 r e2 q2' hx (hf1 r q3).1
      · rcases hset j2 h2 q2 with ⟨rfl, rfl⟩ | ⟨e2, q2'⟩
        · exact fun hx => oth j1 h1 r e1 q1' q3 (hf1 r hx).1
        · exact p.fr j1 j2 h1 h2 r hne q1' q2' q3
    · rcases hset j h2 hj with ⟨rfl, rfl⟩ | ⟨e, hj⟩
      · exact (hf1 r hr).2
      · exact Nat.lt_of_lt_of_le (p.fl j h2 r hj hr) efu.hnx
    · by_cases hoc : o = some c.r
      · rcases hf2 c.r hoc with x | x
        · exact ⟨i, h', by rw [List.getElem?_set, if_pos rfl, if_pos hil], x⟩
        · exact absurd hn (x f c hc rfl)
      · rcases hin f c hc with hc' | x
        · rw [hfi c.r hoc] at hn
          obtain ⟨j, h2, q1, q2⟩ := p.op f c hc' hn
          by_cases e : j = i
          · subst e
            rw [hi] at q1
            cases q1
            rcases hoo with ⟨x, _⟩ | x
            · rw [x] at q2; cases q2
            · exact absurd (x.trans q2) hoc
          · exact ⟨j, h2, by rw [List.getElem?_set, if_neg (Ne.symm e)]; exact q1, q2⟩
        · exact absurd x hoc
end
end Go.Proofs.YtnegdabcjnhpdaaDoor
/- All hands: how it begins, and that all is right in the end: no world in sight. -/
namespace Go.Proofs.YtnegdabcjnhpdaaDoor
open Go.RowKit
theorem sh0 : Sh g0 5 (fun _ => []) (-1) := by
  have h1 : (begX 40).getD 0 0 = 1 := by decide +kernel
  have h2 : ∀ s, s < 40 → (begX 40).getD (KC.bd s 1) 0 = 0 := by decide +kernel
  have h3 : ∀ i, i < 2 → (begX 40).getD (KC.bd 0 i) 0 = 0 := by decide +kernel
  have h4 : ∀ s, s < 40 → 5 ≤ s → (begX 40).getD (KC.hd s) 0 = H0 := by decide +kernel
  refine ⟨begX_len 40, by omega, by omega, ?_, fun v h h' => ?_, fun v t x => (by cases x), rfl, fun f hf => h3 f hf, fun f c hc => (by cases hc), List.nodup_nil, fun f n c t e => ?_, fun f c hc => (by cases hc), fun r _ h4' _ => ⟨h2 r h4', rfl⟩, fun f n c t e => ?_, fun s h5 h4' => .inl (h4 s h4' h5)⟩
  · show 1 ≤ (begX 40).getD 0 0 ∧ (((begX 40).getD 0 0 : Nat) : Int) ≤ 0 + 1
    rw [h1]; omega
  · replace h' : v < (begX 40).getD 0 0 := h'
    rw [h1] at h'
    omega
  · exact absurd e (by simp)
  · exact absurd e (by simp)
theorem pw0 {hs : List Hn} (hh : ∀ (i : Nat) (h : Hn), hs[i]? = some h → h.cur = none ∧ h.acts.length ≤ 12) : Pw ⟨g0, 5, [], false⟩ hs (fun _ => []) (fun _ => none) (-1) (fun _ => 3996) := by
  have hf : ∀ (i : Nat) (h : Hn) (r : Nat), hs[i]? = some h → hfr h = some r → False := fun i h r hi hr => by
    unfold hfr at hr
    rw [(hh i h hi).1] at hr
    cases hr
  refine ⟨sh0, ⟨fun i hi => by simp at hi, fun r i h => by cases h⟩, fun i h hi => .inr ⟨298 * h.acts.length, ?_, ?_⟩, fun i j h h' r _ hi _ hr => (hf i h r hi hr).elim, fun i h r hi hr => (hf i h r hi hr).elim, fun f c hc => (by cases hc), rfl⟩
  · unfold Hk
    rw [(hh i h hi).1]
    exact Nat.le_refl _
  · have := (hh i h hi).2
    show _ + 12 * (35 - 0) ≤ 3996
    omega
theorem two_mem : ∀ {l : List Lrw} {c d : Lrw}, c ∈ l → d ∈ l → c = d ∨ (∃ n t, l = n ++ c :: t ∧ d ∈ n) ∨ (∃ n t, l = n ++ d :: t ∧ c ∈ n) := by
  intro l
  induction l with
  | nil => intro c d hc; cases hc
  | cons a l ih =>
    intro c d hc hd
    rcases List.mem_cons.1 hc with rfl | hc' <;> rcases List.mem_cons.1 hd with rfl | hd'
    · exact .inl rfl
    · obtain ⟨n, t, e⟩ := List.append_of_mem hd'
      exact .inr (.inr ⟨c :: n, t, by rw [e]; rfl, by simp⟩)
    · obtain ⟨n, t, e⟩ := List.append_of_mem hc'
      exact .inr (.inl ⟨d :: n, t, by rw [e]; rfl, by simp⟩)
    · rcases ih hc' hd' with e | ⟨n, t, e, x⟩ | ⟨n, t, e, x⟩
      · exact .inl e
      · exact .inr (.inl ⟨a :: n, t, by rw [e]; rfl, by simp [x]⟩)
      · exact .inr (.inr ⟨a :: n, t, by rw [e]; rfl, by simp [x]⟩)
section
variable {g : Gs} {nx : Nat} {ch : Nat → List Lrw} {m : Int} {fi : Nat → Option Nat}
theorem Sh.before (h : Sh g nx ch m) {f : Nat} {n t : List Lrw} {c d : Lrw} (e : ch f = n ++ c :: t) (hd : d ∈ n) {s s' : Nat} {b b' : Int} (hc : Stm g c.r s b) (hs : Stm g d.r s' b') : b < b' := by
  obtain ⟨s2, b2, x, y⟩ := h.ord f n c t e d hd
  obtain ⟨_, rfl⟩ := hc.uniq x
  have := (h.bm (f := f) (by rw [e]; simp [hd]) hs).1
  omega
theorem Dn.key_nl {x : Dn} (h : x.behind = !x.laid) (hl : x.laid = false) : x.key = 2 * x.point + 1 := Dn.key_t (by rw [h, hl])
theorem Dn.key_l {x : Dn} (h : x.behind = !x.laid) (hl : x.laid = true) : x.key = 2 * x.point := Dn.key_f (by rw [h, hl])
theorem spec_of {ds : List Dn} (h : Sh g nx ch m) (dk : Dk g ch m fi ds) (hall : ∀ f c, c ∈ ch f → fi c.r ≠ none) : Spec ds := by
  have laid : ∀ i, i < ds.length → (ds.getD i dn0).laid = true → ∃ c s, c ∈ ch (ds.getD i dn0).act.fld.toNat ∧ c.a = (ds.getD i dn0).act ∧ fi c.r = some i ∧ Stm g c.r s (ds.getD i dn0).point := fun i hi hl => by
    obtain ⟨_, _, c⟩ := dk.e i hi
    rcases c with ⟨_, _, c⟩ | ⟨q, _⟩
    · exact c
    · rw [q] at hl; cases hl
  have beh : ∀ i, i < ds.length → (ds.getD i dn0).behind = !(ds.getD i dn0).laid := fun i hi => (dk.e i hi).2.1
  have fld : ∀ i, i < ds.length → (ds.getD i dn0).act.fld = 0 ∨ (ds.getD i dn0).act.fld = 1 := fun i hi => (dk.e i hi).1.1
  -- each record that was laid is told
  have told : ∀ (f : Nat) (F : Int) (c : Lrw) (s : Nat) (b : Int), c ∈ ch f → F = (f : Int) → Stm g c.r s b → ∃ i, i < ds.length ∧ (ds.getD i dn0).laid = true ∧ (ds.getD i dn0).act.fld = F ∧ (ds.getD i dn0).point = b ∧ (ds.getD i dn0).act = c.a := fun f F c s b hc hF hs => by
    cases hx : fi c.r with
    | none => exact absurd hx (hall f c hc)
    | some i =>
      obtain ⟨hi, hl, c', s', x, y, z, w⟩ := dk.f _ _ hx
      have e := h.one x hc y
      subst e
      refine ⟨i, hi, hl, ?_, (hs.uniq w).2.symm, z.symm⟩
      rw [← z, hF]
      exact (h.rw f c' hc).2.2.2.2.1
  refine ⟨beh, fld, fun i hi => ?_, fun i j hi hj li lj ef ep => ?_, fun i hi => ?_⟩
  · obtain ⟨_, _, c⟩ := dk.e i hi
    rcases c with ⟨_, _, c, s, x, _, _, w⟩ | ⟨_, ⟨_, q⟩ | ⟨_, v, q, _⟩⟩
    · exact (h.bm x w).2.2.2.1
    · exact q.1
    · exact q.1
  · obtain ⟨c, s, x, y, z, w⟩ := laid i hi li
    obtain ⟨c', s', x', y', z', w'⟩ := laid j hj lj
    rw [← ef] at x'
    rw [← ep] at w'
    rcases two_mem x x' with e | ⟨n, t, e, q⟩ | ⟨n, t, e, q⟩
    · subst e
      rw [z] at z'
      simpa using z'
    · have := h.before e q w w'; omega
    · have := h.before e q w' w; omega
  · obtain ⟨hNm, hb, c⟩ := dk.e i hi
    have hf := hNm.1
    have hfn : (ds.getD i dn0).act.fld = (((ds.getD i dn0).act.fld.toNat : Nat) : Int) := by omega
    -- what a field had at a time
    have asof : ∀ (F P v key : Int), F = 0 ∨ F = 1 → key = 2 * P + 1 → AsOf g ch m F.toNat P v → Lst ds F (fun j => (ds.getD j dn0).key < key) v := fun F P v key hF hkey ⟨_, _, q⟩ => by
      have lateNo : ∀ d s b, Late g d P → d ∈ ch F.toNat → Stm g d.r s b → P < b := fun d s b hl hd hs => by
        rcases hl with q | ⟨s', b', q, r⟩
        · have := (h.bm hd hs).1; omega
        · have := (hs.uniq q).2; omega
      rcases q with ⟨q1, q2⟩ | ⟨n, c, t, q1, ⟨s, b, q2, q3⟩, q4, q5⟩
      · refine .inl ⟨q1, fun j hj hl hfj hk => ?_⟩
        obtain ⟨c, s, x, _, _, w⟩ := laid j hj hl
        rw [hfj] at x
        have := lateNo c s _ (q2 c x) x w
        replace hk : (ds.getD j dn0).key < key := hk
        rw [Dn.key_l (beh j hj) hl] at hk
        omega
      · have hc : c ∈ ch F.toNat := by rw [q1]; simp
        obtain ⟨i0, r1, r2, r3, r4, r5⟩ := told F.toNat F c s b hc (by omega) q2
        refine .inr ⟨i0, r1, r2, r3, ?_, by rw [r5]; exact q4, fun j hj hl hfj hk => ?_⟩
        · show (ds.getD i0 dn0).key < key
          rw [Dn.key_l (beh i0 r1) r2, r4]
          omega
        · rw [Dn.key_l (beh i0 r1) r2, r4]
          replace hk : (ds.getD j dn0).key < key := hk
          rw [Dn.key_l (beh j hj) hl] at hk ⊢
          obtain ⟨c', s', x, _, _, w⟩ := laid j hj hl
          rw [hfj] at x
          have hx := x
          rw [q1] at hx
          rcases List.mem_append.1 hx with y | y
          · have := lateNo c' s' _ (q5 c' y) x w; omega
          · rcases List.mem_cons.1 y with y | y
            · subst y
              have := (q2.uniq w).2; omega
            · obtain ⟨n2, t2, e2⟩ := List.append_of_mem y
              have := h.before (f := F.toNat) (n := n ++ c :: n2) (t := t2) (c := c') (d := c) (by rw [q1, e2]; simp) (by simp) w q2
              omega
    rcases c with ⟨hl, hk, c, s, x, y, z, w⟩ | ⟨hl, ⟨hk, q⟩ | ⟨hk, v, q, hv⟩⟩
    · obtain ⟨n, t, e⟩ := List.append_of_mem x
      have key := Dn.key_l hb hl
      have hex := h.ex _ n c t e
      have lst : Lst ds (ds.getD i dn0).act.fld (fun j => (ds.getD j dn0).key < (ds.getD i dn0).key) (tv t) := by
        rw [key]
        cases t with
        | nil =>
          refine .inl ⟨rfl, fun j hj hlj hfj hkj => ?_⟩
          obtain ⟨c', s', x', _, _, w'⟩ := laid j hj hlj
          rw [hfj] at x'
          replace hkj : (ds.getD j dn0).key < 2 * (ds.getD i dn0).point := hkj
          rw [Dn.key_l (beh j hj) hlj] at hkj
          have hx := x'
          rw [e] at hx
          rcases List.mem_append.1 hx with u | u
          · have := h.before e u w w'; omega
          · have : c' = c := by simpa using u
            subst this
            have := (w.uniq w').2; omega
        | cons c2 t2 =>
          have e2 : ch (ds.getD i dn0).act.fld.toNat = (n ++ [c]) ++ c2 :: t2 := by rw [e]; simp
          obtain ⟨s2, b2, w2, _⟩ := h.ord _ (n ++ [c]) c2 t2 e2 c (by simp)
          have hb2 := h.before e2 (d := c) (by simp) w2 w
          obtain ⟨i0, r1, r2, r3, r4, r5⟩ := told _ (ds.getD i dn0).act.fld c2 s2 b2 (by rw [e2]; simp) hfn w2
          refine .inr ⟨i0, r1, r2, r3, ?_, by rw [r5]; rfl, fun j hj hlj hfj hkj => ?_⟩
          · show (ds.getD i0 dn0).key < _
            rw [Dn.key_l (beh i0 r1) r2, r4]
            omega
          · replace hkj : (ds.getD j dn0).key < 2 * (ds.getD i dn0).point := hkj
            rw [Dn.key_l (beh j hj) hlj] at hkj ⊢
            rw [Dn.key_l (beh i0 r1) r2, r4]
            obtain ⟨c', s', x', _, _, w'⟩ := laid j hj hlj
            rw [hfj] at x'
            have hx := x'
            rw [e2] at hx
            rcases List.mem_append.1 hx with u | u
            · rcases List.mem_append.1 u with u | u
              · have := h.before e u w w'; omega
              · have : c' = c := by simpa using u
                subst this
                have := (w.uniq w').2; omega
            · rcases List.mem_cons.1 u with u | u
              · subst u
                have := (w2.uniq w').2; omega
              · obtain ⟨n3, t3, e3⟩ := List.append_of_mem u
                have := h.before (f := (ds.getD i dn0).act.fld.toNat) (n := (n ++ [c]) ++ c2 :: n3) (t := t3) (c := c') (d := c2) (by rw [e2, e3]; simp) (by simp) w' w2
                omega
      refine ⟨tv t, lst, fun hx => ?_, fun _ => hl, fun hx => ?_⟩
      · omega
      · rw [hl]
        have := hex (by rw [y]; exact hx)
        rw [y] at this
        exact (decide_eq_true this).symm
    · exact ⟨_, asof _ _ _ _ hf (Dn.key_nl hb hl) q, fun _ => ⟨rfl, hl⟩, fun hx => by omega, fun hx => by omega⟩
    · refine ⟨v, asof _ _ _ _ hf (Dn.key_nl hb hl) q, fun hx => by omega, fun hx => by omega, fun _ => ?_⟩
      rw [hl]
      exact (decide_eq_false hv).symm
theorem Pw.right {u : Wl} {hs : List Hn} {bs : Nat → Nat} (p : Pw u hs ch fi m bs) (ho : ∀ (i : Nat) (h : Hn), hs[i]? = some h → h.over) : rightF u.done = true :=
  right_of_spec (spec_of p.sh p.dk fun f c hc hn => by
    obtain ⟨i, h, q1, q2⟩ := p.op f c hc hn
    rw [over_fr (ho i h q1)] at q2
    cases q2)
theorem Pw.kinds {u : Wl} {hs : List Hn} {bs : Nat → Nat} (p : Pw u hs ch fi m bs) {i : Nat} (hi : i < u.done.length) : ((u.done.getD i dn0).act.kind = 0 ∨ (u.done.getD i dn0).act.kind = 1 ∨ (u.done.getD i dn0).act.kind = 2 ∨ (u.done.getD i dn0).act.kind = 3) ∧ Nm (u.done.getD i dn0).act := by
  obtain ⟨a, _, c⟩ := p.dk.e i hi
  refine ⟨?_, a⟩
  rcases c with ⟨_, q, _⟩ | ⟨_, ⟨q, _⟩ | ⟨q, _⟩⟩ <;> omega
theorem Pw.mono {u : Wl} {hs : List Hn} {bs bs' : Nat → Nat} (p : Pw u hs ch fi m bs) (h : ∀ i, bs i ≤ bs' i) : Pw u hs ch fi m bs' :=
  ⟨p.sh, p.dk, fun i x hi => by
    rcases p.hk i x hi with q | ⟨k, q, r⟩
    · exact .inl q
    · exact .inr ⟨k, q, by have := h i; omega⟩, p.fr, p.fl, p.op, p.bad⟩
/-- Time goes by. -/
theorem Pw.wait {u : Wl} {hs : List Hn} {bs : Nat → Nat} (p : Pw u hs ch fi m bs) {m' : Int} (hm : m ≤ m') (now : Int) : Pw (u.at now) hs ch fi m' bs := by
  have sh1 : Sh (u.at now).g (u.at now).next ch m' := (p.sh.at now).quiet (T := (u.at now).g.T) (Int.le_refl _) hm
  have e1 : Ef u.g u.next ch m (u.at now).g u.next ch m' none := (Ef.at now none).trans (Ef.refl hm _)
  refine ⟨sh1, p.dk.ef e1, fun i x hi => ?_, p.fr, p.fl, p.op, p.bad⟩
  rcases p.hk i x hi with q | ⟨k, q, r⟩
  · exact .inl q
  · exact .inr ⟨_, q.ef p.sh sh1 e1 (fun r _ => by simp) (fun r _ => rfl), by omega⟩
/-- Each hand's Turn is at its place. -/
theorem Pw.turns {u : Wl} {hs : List Hn} {bs : Nat → Nat} (p : Pw u hs ch fi m bs) {i : Nat} {h : Hn} (hi : hs[i]? = some h) {a : Ac} {t : Tu} (hc : h.cur = some (a, .turn t)) : t.pc = 0 ∨ t.pc = 1 := by
  rcases p.hk i h hi with x | ⟨k, x, y⟩
  · rw [x.1] at hc; cases hc
  · unfold Hk at x
    rw [hc] at x
    obtain ⟨_, k', ⟨_, k2, tk, _⟩, _⟩ := x
    rcases tk with q | q
    · exact .inl q.1
    · exact .inr q.1
/-- Where no step is left, a hand's work is done. -/
theorem Pw.over {u : Wl} {hs : List Hn} {bs : Nat → Nat} (p : Pw u hs ch fi m bs) {i : Nat} {h : Hn} (hi : hs[i]? = some h) (hb : bs i = 0) : h.over := by
  rcases p.hk i h hi with x | ⟨k, x, y⟩
  · exact x
  · obtain ⟨acts, cur⟩ := h
    cases cur with
    | none =>
      have x' : 298 * acts.length ≤ k := x
      exact ⟨rfl, List.length_eq_zero_iff.1 (show acts.length = 0 by omega)⟩
    | some z =>
      obtain ⟨_, k', q, r⟩ := x
      have := q.pos
      omega
end
end Go.Proofs.YtnegdabcjnhpdaaDoor
