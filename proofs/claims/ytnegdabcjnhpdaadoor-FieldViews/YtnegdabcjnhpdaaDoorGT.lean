/- Views of a field that one alone lays: no world in sight. -/
import Derived.Test.YtnegdabcjnhpdaaDoorGS
import Derived.Deep.AppendLies
import Derived.Deep.RegionHeld3
namespace Go.Proofs.YtnegdabcjnhpdaaDoor
open Go.RowKit

/-- A record: its slot, its stamp, its value. -/
structure Rc where
  r : Nat
  st : Nat
  val : Int
/-- A word leads to these records, newest first. -/
def Older (X : List Nat) : List Rc → Nat → Prop
  | [], w => w = 0
  | c :: l, w => w = c.r + 1 ∧ (5 ≤ c.r ∧ c.r < 40) ∧ X.getD (KC.bd c.r 1) 0 = c.st ∧ c.st ≠ 0 ∧ nm KC (X.getD (KC.bd c.r 0) 0) = c.val ∧ Older X l (X.getD (KC.bd c.r 2) 0)
theorem Older.set {X : List Nat} {p v : Nat} : ∀ {ch : List Rc} {w : Nat}, Older X ch w → (∀ c ∈ ch, p ≠ KC.bd c.r 0 ∧ p ≠ KC.bd c.r 1 ∧ p ≠ KC.bd c.r 2) → Older (X.set p v) ch w
  | [], w, h, _ => h
  | c :: l, w, h, hp => by
    obtain ⟨h1, h2, h3, h4, h5, h6⟩ := h
    have hc := hp c (by simp)
    refine ⟨h1, h2, by rw [getD_set_ne' (Ne.symm hc.2.1)]; exact h3, h4, by rw [getD_set_ne' (Ne.symm hc.1)]; exact h5, ?_⟩
    rw [getD_set_ne' (Ne.symm hc.2.2)]
    exact Older.set h6 fun c' h' => hp c' (by simp [h'])
/-- What a view shows. -/
def look (v : Nat) : List Rc → Int
  | [] => -1
  | c :: l => if c.st ≤ v then c.val else look v l
/-- The field 1, laid by one alone: its chain, the clock; records from n on are new. -/
structure Vi (g : Gs) (n : Nat) (ch : List Rc) (clk : Nat) : Prop where
  len : g.X.length = 208
  clock : g.X.getD 0 0 = clk
  c1 : 1 ≤ clk ∧ clk < 1000
  old : Older g.X ch (g.X.getD (KC.bd 0 1) 0)
  lt : ∀ c ∈ ch, c.r < n ∧ c.st ≤ clk
  new : ∀ s, n ≤ s → s < 40 → g.X.getD (KC.bd s 1) 0 = 0
theorem vi0 : Vi g0 5 [] 1 := by
  have h1 : (begX 40).getD 0 0 = 1 := by decide +kernel
  have h2 : ∀ s, s < 40 → (begX 40).getD (KC.bd s 1) 0 = 0 := by decide +kernel
  have h3 : (begX 40).getD (KC.bd 0 1) 0 = 0 := by decide +kernel
  exact ⟨begX_len 40, h1, by omega, h3, (fun c h => by cases h), fun s _ hs => h2 s hs⟩
theorem Vi.touch {g : Gs} {n : Nat} {ch : List Rc} {clk : Nat} (h : Vi g n ch clk) (T : Int) : Vi { g with T := T } n ch clk := ⟨h.len, h.clock, h.c1, h.old, h.lt, h.new⟩
theorem Vi.mono {g : Gs} {n : Nat} {ch : List Rc} {clk : Nat} (h : Vi g n ch clk) : Vi g (n + 1) ch clk :=
  ⟨h.len, h.clock, h.c1, h.old, fun c hc => ⟨by have := (h.lt c hc).1; omega, (h.lt c hc).2⟩, fun s hs h4 => h.new s (by omega) h4⟩
/-- A word is stored that the field doesn't hang on. -/
theorem Vi.store {g : Gs} {n : Nat} {ch : List Rc} {clk : Nat} (h : Vi g n ch clk) {p w : Nat} (T : Int) (h0 : p ≠ 0) (h1 : p ≠ KC.bd 0 1) (h2 : ∀ s, n ≤ s → p ≠ KC.bd s 1) (h3 : ∀ s, 5 ≤ s → s < n → p ≠ KC.bd s 0 ∧ p ≠ KC.bd s 1 ∧ p ≠ KC.bd s 2) : Vi { g with X := g.X.set p w, T := T } n ch clk := by
  refine ⟨by show (g.X.set p w).length = _; rw [List.length_set]; exact h.len, by show (g.X.set p w).getD 0 0 = _; rw [getD_set_ne' (Ne.symm h0)]; exact h.clock, h.c1, ?_, h.lt, fun s hs h4 => ?_⟩
  · show Older (g.X.set p w) ch ((g.X.set p w).getD (KC.bd 0 1) 0)
    rw [getD_set_ne' (Ne.symm h1)]
    have key : ∀ (l : List Rc) (x : Nat), Older g.X l x → (∀ c ∈ l, c.r < n) → ∀ c ∈ l, 5 ≤ c.r := fun l => by
      induction l with
      | nil => intro x _ _ c hc; cases hc
      | cons a l ih =>
        intro x hx hl c hc
        obtain ⟨_, q2, _, _, _, q6⟩ := hx
        simp only [List.mem_cons] at hc
        rcases hc with rfl | hc
        · exact q2.1
        · exact ih _ q6 (fun c' h' => hl c' (by simp [h'])) c hc
    exact h.old.set fun c hc => h3 c.r (key ch _ h.old (fun c' h' => (h.lt c' h').1) c hc) (h.lt c hc).1
  · show (g.X.set p w).getD (KC.bd s 1) 0 = 0
    rw [getD_set_ne' (Ne.symm (h2 s hs))]; exact h.new s hs h4
/-- The clock is turned. -/
theorem Vi.turn {g : Gs} {n : Nat} {ch : List Rc} {clk : Nat} (h : Vi g n ch clk) (hc : clk + 1 < 1000) (T : Int) (k : Bk) : Vi ⟨g.X.set 0 (clk + 1), T, k⟩ n ch (clk + 1) := by
  have hl : 0 < g.X.length := by rw [h.len]; omega
  refine ⟨by show (g.X.set 0 _).length = _; rw [List.length_set]; exact h.len, by show (g.X.set 0 (clk + 1)).getD 0 0 = _; rw [getD_set_eq hl], by omega, ?_, fun c hc' => ⟨(h.lt c hc').1, by have := (h.lt c hc').2; omega⟩, fun s hs h4 => ?_⟩
  · show Older (g.X.set 0 _) ch ((g.X.set 0 _).getD (KC.bd 0 1) 0)
    rw [getD_set_ne' (by rw [KC_bd]; omega)]
    exact h.old.set fun c _ => ⟨by rw [KC_bd]; omega, by rw [KC_bd]; omega, by rw [KC_bd]; omega⟩
  · show (g.X.set 0 _).getD (KC.bd s 1) 0 = 0
    rw [getD_set_ne' (by rw [KC_bd]; omega)]; exact h.new s hs h4
/-- A view at the clock shows the newest; a record above a view is not shown. -/
theorem look_top {ch : List Rc} {clk : Nat} (h : ∀ c ∈ ch, c.st ≤ clk) : look clk ch = match ch with | [] => -1 | c :: _ => c.val := by
  cases ch with
  | nil => rfl
  | cons c l => unfold look; rw [if_pos (h c (by simp))]
theorem look_new {ch : List Rc} {c : Rc} {v : Nat} (h : v < c.st) : look v (c :: ch) = look v ch := by
  show (if c.st ≤ v then c.val else look v ch) = _
  rw [if_neg (by omega)]
/-- A See under way, that nobody disturbs: it comes to z. -/
def SeOn (s : Se) (g : Gs) (z : Int) (m : Nat) : Prop := s.val = -1 ∧
  ((s.pc = 0 ∧ s.n.on = false ∧ s.n.field = KC.bd 0 1 ∧ ∃ ch, Older g.X ch (g.X.getD (KC.bd 0 1) 0) ∧ look s.view ch = z ∧ 2 * ch.length + 3 ≤ m) ∨
   (s.pc = 0 ∧ s.n.on = true ∧ ∃ c l, s.n.rc = ((c.r : Nat) : Int) ∧ s.n.s.pc = 0 ∧ s.n.s.place = KC.bd c.r 1 ∧ Older g.X (c :: l) (c.r + 1) ∧ look s.view (c :: l) = z ∧ 2 * l.length + 4 ≤ m) ∨
   (s.pc = 1 ∧ ∃ c l, s.n.rc = ((c.r : Nat) : Int) ∧ Older g.X (c :: l) (c.r + 1) ∧ look s.view (c :: l) = z ∧ 2 * l.length + 3 ≤ m) ∨
   (s.pc = 2 ∧ ∃ c : Nat, s.n.rc = (c : Int) ∧ nm KC (g.X.getD (KC.bd c 0) 0) = z ∧ 1 ≤ m) ∨
   (s.pc = 3 ∧ ∃ (c : Nat) (l : List Rc), s.n.rc = (c : Int) ∧ Older g.X l (g.X.getD (KC.bd c 2) 0) ∧ look s.view l = z ∧ 2 * l.length + 2 ≤ m))
theorem older_word {X : List Nat} {ch : List Rc} {w : Nat} (h : Older X ch w) : (ch = [] ∧ nm KC w = -1) ∨ ∃ c l, ch = c :: l ∧ nm KC w = ((c.r : Nat) : Int) ∧ w = c.r + 1 := by
  cases ch with
  | nil => exact .inl ⟨rfl, by rw [show w = 0 from h]; exact nm_zero⟩
  | cons c l =>
    obtain ⟨h1, h2, _⟩ := h
    exact .inr ⟨c, l, rfl, by rw [h1]; exact nm_word h2.2, h1⟩
theorem se_step {s : Se} {g : Gs} {z : Int} {m : Nat} (st : SeOn s g z m) (B : Nat) : (s.step KC B g).2 = { g with T := g.T + 1 } ∧ (((s.step KC B g).1.pc = 4 ∧ (s.step KC B g).1.val = z) ∨ ((s.step KC B g).1.pc ≠ 4 ∧ 2 ≤ m ∧ SeOn (s.step KC B g).1 (s.step KC B g).2 z (m - 1))) := by
  obtain ⟨hv, st⟩ := st
  have gone : ∀ (s' : Se) (l : List Rc) (w : Nat), Older g.X l w → s'.n.rc = nm KC w → s'.val = -1 → look s'.view l = z → 2 * l.length + 2 ≤ m → ((s'.goOn).pc = 4 ∧ (s'.goOn).val = z) ∨ ((s'.goOn).pc ≠ 4 ∧ 2 ≤ m ∧ SeOn s'.goOn { g with T := g.T + 1 } z (m - 1)) := fun s' l w hw hr hv' hl hm => by
    unfold Se.goOn
    rcases older_word hw with ⟨e1, e2⟩ | ⟨c, l', e1, e2, e3⟩
    · rw [e2] at hr
      subst e1
      refine .inl ⟨by show (if s'.n.rc = -1 then (4 : Int) else 1) = 4; rw [if_pos hr], ?_⟩
      show s'.val = z
      rw [hv', ← hl]; rfl
    · rw [e2] at hr
      subst e1
      have hne : ¬ s'.n.rc = -1 := by omega
      refine .inr ⟨by show (if s'.n.rc = -1 then (4 : Int) else 1) ≠ 4; rw [if_neg hne]; omega, by omega, hv', .inr (.inr (.inl ⟨by show (if s'.n.rc = -1 then (4 : Int) else 1) = 1; rw [if_neg hne], c, l', hr, by rw [← e3]; exact hw, hl, ?_⟩))⟩
      simp only [List.length_cons] at hm
      omega
  rcases st with ⟨p, on, hfd, ch, ho, hl, hm⟩ | ⟨p, on, c, l, hr, s0, sp, ho, hl, hm⟩ | ⟨p, c, l, hr, ho, hl, hm⟩ | ⟨p, c, hr, hz, hm⟩ | ⟨p, c, l, hr, ho, hl, hm⟩
  · have hfi : s.n.find KC B g = ({ s.n with word := g.X.getD s.n.field 0, since := g.k.now, rc := nm KC (g.X.getD s.n.field 0), sb := if nm KC (g.X.getD s.n.field 0) = -1 then s.n.sb else some ⟨B, 0, none⟩, s := if nm KC (g.X.getD s.n.field 0) = -1 then s.n.s else ⟨nm KC (g.X.getD s.n.field 0), KC.bd (nm KC (g.X.getD s.n.field 0)).toNat 1, 0, 0, 0⟩, on := !decide (nm KC (g.X.getD s.n.field 0) = -1) }, { g with T := g.T + 1 }) := by
      unfold Nw.find
      rw [if_neg (by rw [on]; simp)]
    unfold Se.step
    rw [if_pos p, hfi]
    simp only
    rcases older_word ho with ⟨e1, e2⟩ | ⟨c, l, e1, e2, e3⟩
    · rw [← hfd] at e2
      simp only [e2, decide_true, Bool.not_true]
      rw [if_neg (by simp)]
      exact ⟨rfl, gone _ ch _ ho (by show (-1 : Int) = _; rw [← hfd]; exact e2.symm) hv hl (by omega)⟩
    · have hne : ¬ nm KC (g.X.getD s.n.field 0) = -1 := by rw [hfd, e2]; omega
      have hnm : nm KC (g.X.getD s.n.field 0) = ((c.r : Nat) : Int) := by rw [hfd]; exact e2
      simp only [hne, if_false]
      subst e1
      refine ⟨rfl, .inr ⟨by show s.pc ≠ 4; omega, by omega, hv, .inr (.inl ⟨p, rfl, c, l, hnm, rfl, ?_, by rw [← e3]; exact ho, hl, ?_⟩)⟩⟩
      · show KC.bd (nm KC (g.X.getD s.n.field 0)).toNat 1 = KC.bd c.r 1
        rw [hnm]; rfl
      · simp only [List.length_cons] at hm
        omega
  · have hz : ¬ g.X.getD s.n.s.place 0 = 0 := by
      obtain ⟨_, _, q3, q4, _⟩ := ho
      rw [sp, q3]; exact q4
    have hss : s.n.s.step g = ({ s.n.s with pc := 3 }, { g with T := g.T + 1 }) := by
      unfold Sm.step
      rw [if_pos s0, if_neg hz]
    have hfi : s.n.find KC B g = ({ s.n with s := { s.n.s with pc := 3 }, on := false }, { g with T := g.T + 1 }) := by
      unfold Nw.find
      rw [if_pos on, hss]
      simp
    unfold Se.step
    rw [if_pos p, hfi]
    simp only
    rw [if_neg (by simp)]
    refine ⟨rfl, gone _ (c :: l) (c.r + 1) ho ?_ hv hl (by simp only [List.length_cons]; omega)⟩
    show s.n.rc = _
    rw [hr, nm_word ho.2.1.2]
  · obtain ⟨_, q2, q3, q4, q5, q6⟩ := ho
    unfold Se.step
    rw [if_neg (by omega), if_pos p, hr, Int.toNat_natCast, q3]
    refine ⟨rfl, .inr ⟨?_, by omega, hv, ?_⟩⟩
    · show (if c.st ≤ s.view then (2 : Int) else 3) ≠ 4
      split <;> omega
    · by_cases cc : c.st ≤ s.view
      · refine .inr (.inr (.inr (.inl ⟨by show (if c.st ≤ s.view then (2 : Int) else 3) = 2; rw [if_pos cc], c.r, hr, ?_, by omega⟩)))
        rw [show look s.view (c :: l) = c.val by unfold look; rw [if_pos cc]] at hl
        exact q5.trans hl
      · refine .inr (.inr (.inr (.inr ⟨by show (if c.st ≤ s.view then (2 : Int) else 3) = 3; rw [if_neg cc], c.r, l, hr, q6, ?_, by omega⟩)))
        rw [show look s.view (c :: l) = look s.view l by show (if c.st ≤ s.view then c.val else look s.view l) = _; rw [if_neg cc]] at hl
        exact hl
  · unfold Se.step
    rw [if_neg (by omega), if_neg (by omega), if_pos p, hr, Int.toNat_natCast]
    exact ⟨rfl, .inl ⟨rfl, hz⟩⟩
  · unfold Se.step
    rw [if_neg (by omega), if_neg (by omega), if_neg (by omega), if_pos p, hr, Int.toNat_natCast]
    refine ⟨rfl, ?_⟩
    rcases older_word ho with ⟨e1, e2⟩ | ⟨c', l', e1, e2, e3⟩
    · subst e1
      unfold Se.goOn
      refine .inl ⟨by show (if nm KC (g.X.getD (KC.bd c 2) 0) = -1 then (4 : Int) else 1) = 4; rw [if_pos e2], ?_⟩
      show s.val = z
      rw [hv, ← hl]; rfl
    · subst e1
      have hne : ¬ nm KC (g.X.getD (KC.bd c 2) 0) = -1 := by omega
      unfold Se.goOn
      refine .inr ⟨by show (if nm KC (g.X.getD (KC.bd c 2) 0) = -1 then (4 : Int) else 1) ≠ 4; rw [if_neg hne]; omega, by omega, hv, .inr (.inr (.inl ⟨by show (if nm KC (g.X.getD (KC.bd c 2) 0) = -1 then (4 : Int) else 1) = 1; rw [if_neg hne], c', l', e2, by rw [← e3]; exact ho, hl, ?_⟩))⟩
      simp only [List.length_cons] at hm
      omega
end Go.Proofs.YtnegdabcjnhpdaaDoor
/- A Lay alone, with the whole chain of the field: no world in sight. -/
namespace Go.Proofs.YtnegdabcjnhpdaaDoor
open Go.RowKit

structure Vy (l : La) (g : Gs) (n : Nat) (ch : List Rc) (clk : Nat) (v : Int) : Prop where
  vi : Vi g n ch clk
  hn : 5 ≤ n ∧ n < 40
  val : nm KC (g.X.getD (KC.bd n 0) 0) = v
  fresh : l.fresh = n
  field : l.n.field = KC.bd 0 1
  expect : l.expect = -2
  e : l.e = 0
def VTop (g : Gs) (l : La) : Prop := l.n.word = g.X.getD (KC.bd 0 1) 0 ∧ l.n.rc = nm KC l.n.word
def VStg (l : La) (g : Gs) (n : Nat) (m : Nat) : Prop :=
  (l.pc = 0 ∧ l.n.on = false ∧ 9 ≤ m) ∨
  (l.pc = 0 ∧ l.n.on = true ∧ VTop g l ∧ 0 ≤ l.n.rc ∧ l.n.s.pc = 0 ∧ l.n.s.place = KC.bd l.n.rc.toNat 1 ∧ 8 ≤ m) ∨
  (l.pc = 2 ∧ VTop g l ∧ 7 ≤ m) ∨
  (l.pc = 4 ∧ VTop g l ∧ g.X.getD (KC.bd n 2) 0 = g.X.getD (KC.bd 0 1) 0 ∧ 6 ≤ m)
structure VSty (l : La) (g : Gs) (n : Nat) (ch : List Rc) (clk : Nat) (v : Int) (m : Nat) : Prop where
  len : g.X.length = 208
  clock : g.X.getD 0 0 = clk
  c1 : 1 ≤ clk ∧ clk < 1000
  hn : 5 ≤ n ∧ n < 40
  pc : l.pc = 5
  top : g.X.getD (KC.bd 0 1) 0 = n + 1
  old : Older g.X ch (g.X.getD (KC.bd n 2) 0)
  lt : ∀ c ∈ ch, c.r < n ∧ c.st ≤ clk
  st : g.X.getD (KC.bd n 1) 0 = 0
  val : nm KC (g.X.getD (KC.bd n 0) 0) = v
  new : ∀ s, n + 1 ≤ s → s < 40 → g.X.getD (KC.bd s 1) 0 = 0
  place : l.n.s.place = KC.bd n 1
  s : l.n.s.pc = 0 ∧ 4 ≤ m ∨ l.n.s.pc = 1 ∧ 3 ≤ m ∨ l.n.s.pc = 2 ∧ 2 ≤ m ∧ l.n.s.clock = clk
def VNext (x : La × Gs) (n : Nat) (ch : List Rc) (clk : Nat) (v : Int) (m : Nat) : Prop :=
  (x.1.pc = 6 ∧ Vi x.2 (n + 1) (⟨n, clk, v⟩ :: ch) clk) ∨ (x.1.pc ≠ 6 ∧ 1 ≤ m ∧ ((Vy x.1 x.2 n ch clk v ∧ VStg x.1 x.2 n (m - 1)) ∨ VSty x.1 x.2 n ch clk v (m - 1)))
theorem vy_step {l : La} {g : Gs} {n : Nat} {ch : List Rc} {clk : Nat} {v : Int} {m : Nat} (h : Vy l g n ch clk v) (st : VStg l g n m) (B Q : Nat) : VNext (l.step KC B Q g) n ch clk v m := by
  have hn := h.hn
  have hex := h.expect
  rcases st with ⟨p, on, hm⟩ | ⟨p, on, t, r0, s0, sp, hm⟩ | ⟨p, t, hm⟩ | ⟨p, t, ho2, hm⟩
  · have hst : l.step KC B Q g = (if (l.n.find KC B g).1.on = true then { l with n := (l.n.find KC B g).1 } else La.found { l with n := (l.n.find KC B g).1 } (l.n.find KC B g).2, (l.n.find KC B g).2) := by unfold La.step; rw [if_pos p]
    have hfi : l.n.find KC B g = ({ l.n with word := g.X.getD l.n.field 0, since := g.k.now, rc := nm KC (g.X.getD l.n.field 0), sb := if nm KC (g.X.getD l.n.field 0) = -1 then l.n.sb else some ⟨B, 0, none⟩, s := if nm KC (g.X.getD l.n.field 0) = -1 then l.n.s else ⟨nm KC (g.X.getD l.n.field 0), KC.bd (nm KC (g.X.getD l.n.field 0)).toNat 1, 0, 0, 0⟩, on := !decide (nm KC (g.X.getD l.n.field 0) = -1) }, { g with T := g.T + 1 }) := by
      unfold Nw.find
      rw [if_neg (by rw [on]; simp)]
    rw [hst, hfi]
    simp only
    have hfd := h.field
    by_cases c : nm KC (g.X.getD l.n.field 0) = -1
    · simp only [c, decide_true, Bool.not_true]
      rw [if_neg (by simp)]
      unfold La.found
      rw [if_pos (by show l.expect < -1; omega)]
      refine .inr ⟨by show (2 : Int) ≠ 6; omega, by omega, .inl ⟨⟨h.vi.touch _, hn, h.val, h.fresh, hfd, h.expect, h.e⟩, .inr (.inr (.inl ⟨rfl, ⟨?_, c.symm⟩, by omega⟩))⟩⟩
      show g.X.getD l.n.field 0 = g.X.getD (KC.bd 0 1) 0
      rw [hfd]
    · simp only [c, if_false]
      have h0 : 0 ≤ nm KC (g.X.getD l.n.field 0) := by have := nm_le KC_ok (g.X.getD l.n.field 0); omega
      refine .inr ⟨by show l.pc ≠ 6; omega, by omega, .inl ⟨⟨h.vi.touch _, hn, h.val, h.fresh, hfd, h.expect, h.e⟩, .inr (.inl ⟨p, rfl, ⟨?_, rfl⟩, h0, rfl, rfl, by omega⟩)⟩⟩
      show g.X.getD l.n.field 0 = g.X.getD (KC.bd 0 1) 0
      rw [hfd]
  · have hz : ¬ g.X.getD l.n.s.place 0 = 0 := by
      rw [sp, t.2, t.1]
      rcases older_word h.vi.old with ⟨_, e2⟩ | ⟨c, l', e1, e2, e3⟩
      · have := t.2; rw [t.1] at this; omega
      · rw [e2, Int.toNat_natCast]
        have ho := h.vi.old
        rw [e1] at ho
        obtain ⟨_, _, q3, q4, _⟩ := ho
        rw [q3]; exact q4
    have hss : l.n.s.step g = ({ l.n.s with pc := 3 }, { g with T := g.T + 1 }) := by
      unfold Sm.step
      rw [if_pos s0, if_neg hz]
    have hst : l.step KC B Q g = (if (l.n.find KC B g).1.on = true then { l with n := (l.n.find KC B g).1 } else La.found { l with n := (l.n.find KC B g).1 } (l.n.find KC B g).2, (l.n.find KC B g).2) := by unfold La.step; rw [if_pos p]
    have hfi : l.n.find KC B g = ({ l.n with s := { l.n.s with pc := 3 }, on := false }, { g with T := g.T + 1 }) := by
      unfold Nw.find
      rw [if_pos on, hss]
      simp
    rw [hst, hfi]
    simp only
    rw [if_neg (by simp)]
    unfold La.found
    rw [if_pos (by show l.expect < -1; omega)]
    exact .inr ⟨by show (2 : Int) ≠ 6; omega, by omega, .inl ⟨⟨h.vi.touch _, hn, h.val, h.fresh, h.field, h.expect, h.e⟩, .inr (.inr (.inl ⟨rfl, t, by omega⟩))⟩⟩
  · have hst : l.step KC B Q g = (if l.n.rc ≠ -1 ∧ Hh.fen l.e = true then { l with pc := 3, sh := some ⟨Q, false, KC.hd l.n.rc.toNat, 0, 0, 0⟩ } else { l with pc := 4 }, l.oldG KC g) := by unfold La.step; rw [if_neg (by omega), if_neg (by omega), if_pos p]
    rw [hst, if_neg (by rw [h.e]; rintro ⟨_, q⟩; exact absurd q (by decide +kernel))]
    have hvi : Vi (l.oldG KC g) n ch clk := h.vi.store _ (by rw [KC_bd]; omega) (by rw [KC_bd, KC_bd, h.fresh]; omega) (fun s _ => by rw [KC_bd, KC_bd]; omega) (fun s _ _ => ⟨by rw [KC_bd, KC_bd]; omega, by rw [KC_bd, KC_bd]; omega, by rw [KC_bd, KC_bd, h.fresh]; omega⟩)
    have hl : KC.bd n 2 < g.X.length := by rw [h.vi.len, KC_bd]; omega
    have hw : (l.n.rc + 1).toNat = g.X.getD (KC.bd 0 1) 0 := by
      rw [t.2, t.1]
      rcases older_word h.vi.old with ⟨e1, e2⟩ | ⟨c, l', e1, e2, e3⟩
      · rw [e2]
        have ho := h.vi.old
        rw [e1] at ho
        rw [show g.X.getD (KC.bd 0 1) 0 = 0 from ho]; rfl
      · rw [e2, e3]; omega
    refine .inr ⟨by show (4 : Int) ≠ 6; omega, by omega, .inl ⟨⟨hvi, hn, ?_, h.fresh, h.field, h.expect, h.e⟩, .inr (.inr (.inr ⟨rfl, ⟨?_, t.2⟩, ?_, by omega⟩))⟩⟩
    · show nm KC ((g.X.set (KC.bd l.fresh 2) _).getD (KC.bd n 0) 0) = v
      rw [getD_set_ne' (by rw [KC_bd, KC_bd]; omega)]; exact h.val
    · show l.n.word = (g.X.set (KC.bd l.fresh 2) _).getD (KC.bd 0 1) 0
      rw [getD_set_ne' (by rw [KC_bd, KC_bd, h.fresh]; omega)]; exact t.1
    · show (g.X.set (KC.bd l.fresh 2) (l.n.rc + 1).toNat).getD (KC.bd n 2) 0 = (g.X.set (KC.bd l.fresh 2) (l.n.rc + 1).toNat).getD (KC.bd 0 1) 0
      rw [h.fresh, getD_set_eq hl, getD_set_ne' (by rw [KC_bd, KC_bd]; omega)]; exact hw
  · have hst : l.step KC B Q g = l.swap KC B g := by unfold La.step; rw [if_neg (by omega), if_neg (by omega), if_neg (by omega), if_neg (by omega), if_pos p]
    rw [hst]
    unfold La.swap
    rw [if_pos (by rw [h.field]; exact t.1.symm)]
    have hF : KC.bd 0 1 < g.X.length := by rw [h.vi.len, KC_bd]; omega
    refine .inr ⟨by show (5 : Int) ≠ 6; omega, by omega, .inr ⟨?_, ?_, h.vi.c1, hn, rfl, ?_, ?_, h.vi.lt, ?_, ?_, fun s hs h4 => ?_, ?_, .inl ⟨rfl, by omega⟩⟩⟩
    · show (g.X.set _ _).length = 208; rw [List.length_set]; exact h.vi.len
    · show (g.X.set l.n.field _).getD 0 0 = clk; rw [h.field, getD_set_ne' (by rw [KC_bd]; omega)]; exact h.vi.clock
    · show (g.X.set l.n.field (l.fresh + 1)).getD (KC.bd 0 1) 0 = n + 1; rw [h.field, getD_set_eq hF, h.fresh]
    · show Older (g.X.set l.n.field _) ch ((g.X.set l.n.field _).getD (KC.bd n 2) 0)
      rw [h.field, getD_set_ne' (by rw [KC_bd, KC_bd]; omega), ho2]
      have key : ∀ (l : List Rc) (x : Nat), Older g.X l x → ∀ c ∈ l, 5 ≤ c.r := fun l => by
        induction l with
        | nil => intro x _ c hc; cases hc
        | cons a l ih =>
          intro x hx c hc
          obtain ⟨_, q2, _, _, _, q6⟩ := hx
          simp only [List.mem_cons] at hc
          rcases hc with rfl | hc
          · exact q2.1
          · exact ih _ q6 c hc
      exact h.vi.old.set fun c hc => by
        have := key ch _ h.vi.old c hc
        exact ⟨by rw [KC_bd, KC_bd]; omega, by rw [KC_bd, KC_bd]; omega, by rw [KC_bd, KC_bd]; omega⟩
    · show (g.X.set l.n.field _).getD (KC.bd n 1) 0 = 0; rw [h.field, getD_set_ne' (by rw [KC_bd, KC_bd]; omega)]; exact h.vi.new n (Nat.le_refl _) hn.2
    · show nm KC ((g.X.set l.n.field _).getD (KC.bd n 0) 0) = v; rw [h.field, getD_set_ne' (by rw [KC_bd, KC_bd]; omega)]; exact h.val
    · show (g.X.set l.n.field _).getD (KC.bd s 1) 0 = 0; rw [h.field, getD_set_ne' (by rw [KC_bd, KC_bd]; omega)]; exact h.vi.new s (by omega) h4
    · show KC.bd l.fresh 1 = KC.bd n 1; rw [h.fresh]
theorem vsty_step {l : La} {g : Gs} {n : Nat} {ch : List Rc} {clk : Nat} {v : Int} {m : Nat} (h : VSty l g n ch clk v m) (B Q : Nat) : VNext (l.step KC B Q g) n ch clk v m := by
  have hn := h.hn
  have hst : l.step KC B Q g = l.stamp g := by
    have := h.pc
    unfold La.step
    rw [if_neg (by omega), if_neg (by omega), if_neg (by omega), if_neg (by omega), if_neg (by omega), if_pos h.pc]
  rw [hst]
  unfold La.stamp
  have hz : g.X.getD l.n.s.place 0 = 0 := by rw [h.place]; exact h.st
  rcases h.s with ⟨k, hm⟩ | ⟨k, hm⟩ | ⟨k, hm, hc⟩
  · have hs : l.n.s.step g = ({ l.n.s with pc := 1 }, { g with T := g.T + 1 }) := by unfold Sm.step; rw [if_pos k, if_pos hz]
    rw [hs]
    simp only
    rw [if_neg (by omega)]
    exact .inr ⟨by show l.pc ≠ 6; have := h.pc; omega, by omega, .inr ⟨h.len, h.clock, h.c1, hn, h.pc, h.top, h.old, h.lt, h.st, h.val, h.new, h.place, .inr (.inl ⟨rfl, by omega⟩)⟩⟩
  · have hs : l.n.s.step g = ({ l.n.s with pc := 2, clock := g.X.getD 0 0, point := g.k.now }, { g with T := g.T + 1 }) := by unfold Sm.step; rw [if_neg (by omega), if_pos k]
    rw [hs]
    simp only
    rw [if_neg (by omega)]
    exact .inr ⟨by show l.pc ≠ 6; have := h.pc; omega, by omega, .inr ⟨h.len, h.clock, h.c1, hn, h.pc, h.top, h.old, h.lt, h.st, h.val, h.new, h.place, .inr (.inr ⟨rfl, by omega, h.clock⟩)⟩⟩
  · have hs : l.n.s.step g = ({ l.n.s with pc := 3 }, ⟨g.X.set l.n.s.place l.n.s.clock, g.T + 1, { g.k with born := upd g.k.born l.n.s.rc l.n.s.point }⟩) := by unfold Sm.step; rw [if_neg (by omega), if_neg (by omega), if_pos k, if_pos hz]
    rw [hs]
    simp only [if_true]
    have hF : KC.bd n 1 < g.X.length := by rw [h.len, KC_bd]; omega
    refine .inl ⟨rfl, ?_, ?_, h.c1, ?_, ?_, fun s hs h4 => ?_⟩
    · show (g.X.set _ _).length = 208; rw [List.length_set]; exact h.len
    · show (g.X.set l.n.s.place _).getD 0 0 = clk; rw [h.place, getD_set_ne' (by rw [KC_bd]; omega)]; exact h.clock
    · show Older (g.X.set l.n.s.place l.n.s.clock) (⟨n, clk, v⟩ :: ch) ((g.X.set l.n.s.place l.n.s.clock).getD (KC.bd 0 1) 0)
      rw [h.place, getD_set_ne' (by rw [KC_bd, KC_bd]; omega), h.top]
      refine ⟨rfl, hn, by rw [getD_set_eq hF]; exact hc, by have := h.c1; show clk ≠ 0; omega, by rw [getD_set_ne' (by rw [KC_bd, KC_bd]; show 8 + n * 5 + 2 + 0 ≠ _; omega)]; exact h.val, ?_⟩
      rw [getD_set_ne' (by rw [KC_bd, KC_bd]; show 8 + n * 5 + 2 + 2 ≠ _; omega)]
      exact h.old.set fun c hc' => by
        have := (h.lt c hc').1
        exact ⟨by rw [KC_bd, KC_bd]; omega, by rw [KC_bd, KC_bd]; omega, by rw [KC_bd, KC_bd]; omega⟩
    · intro c hc'
      simp only [List.mem_cons] at hc'
      rcases hc' with rfl | hc'
      · exact ⟨by show n < n + 1; omega, Nat.le_refl _⟩
      · have := h.lt c hc'; exact ⟨by omega, this.2⟩
    · show (g.X.set l.n.s.place _).getD (KC.bd s 1) 0 = 0; rw [h.place, getD_set_ne' (by rw [KC_bd, KC_bd]; omega)]; exact h.new s hs h4
end Go.Proofs.YtnegdabcjnhpdaaDoor
/- One machine alone: a Lay with the field's chain, a Turn, a See, step by step. -/
namespace Go.Proofs.YtnegdabcjnhpdaaDoor
open Go.RowKit
open Mm (IsMem MS touched Only)
open Hh (WT)
section
variable {w wr w' : World} {lo Wb M G B : Nat} {g : Gs}
def VyOn (l : La) (g : Gs) (n : Nat) (ch : List Rc) (clk : Nat) (v : Int) (m : Nat) : Prop := (Vy l g n ch clk v ∧ VStg l g n m) ∨ VSty l g n ch clk v m
theorem lay_vi {P : Nat} {l : La} {n m : Nat} {ch : List Rc} {clk : Nat} {v : Int} (h : Lw w wr lo Wb M G B g) (hl : LaIn wr lo Wb M G B P l) (hT : g.T + 1 < 4611686018427387904) (st : VyOn l g n ch clk v m) :
    ∃ bd : Bool, (bd = false → 1 ≤ m) ∧ Calls Tryd.prog 17 #[.pointer (some ⟨P, 0, none⟩), .pointer (some ⟨M, 0, none⟩)] wr fun e w' => e = .returned (.bool bd) ∧ ∃ l' g', Lw w w' lo Wb M G B g' ∧ LaIn w' lo Wb M G B P l' ∧ (g.T ≤ g'.T ∧ g'.T ≤ g.T + 1) ∧ (bd = true → Vi g' (n + 1) (⟨n, clk, v⟩ :: ch) clk) ∧ (bd = false → VyOn l' g' n ch clk v (m - 1)) := by
  have nx : ∀ Q, VNext (l.step KC B Q g) n ch clk v m := fun Q => by
    rcases st with ⟨a, b⟩ | a
    · exact vy_step a b B Q
    · exact vsty_step a B Q
  refine ⟨decide ((l.step KC B 0 g).1.pc = 6), fun hb => ?_, (lay_one h hl hT).mono fun e w' ⟨Q, e1, e2, e3⟩ => ⟨?_, _, _, e2, e3, l.step_T KC B Q g, fun hb => ?_, fun hb => ?_⟩⟩
  · have hb' : (l.step KC B 0 g).1.pc ≠ 6 := by simpa using hb
    rcases nx 0 with ⟨a, _⟩ | ⟨_, a, _⟩
    · exact absurd a hb'
    · exact a
  · rw [e1, (l.step_Q0 KC B Q g).1]
  · have hb' : (l.step KC B Q g).1.pc = 6 := by rw [(l.step_Q0 KC B Q g).1]; simpa using hb
    rcases nx Q with ⟨_, a⟩ | ⟨a, _⟩
    · exact a
    · exact absurd hb' a
  · have hb' : (l.step KC B Q g).1.pc ≠ 6 := by rw [(l.step_Q0 KC B Q g).1]; simpa using hb
    rcases nx Q with ⟨a, _⟩ | ⟨_, _, a⟩
    · exact absurd a hb'
    · exact a
/-- A See's block. -/
structure SeIn (wr : World) (lo Wb M G B P : Nat) (s : Se) : Prop where
  b : ∃ c, wr.heap[P]? = some (.cells c 73 (0, 0)) ∧ SeAt c B KC s
  ok : s.Ok KC B
  ne : P ≠ M ∧ P ≠ G ∧ P ≠ B ∧ P ≠ Wb ∧ lo ≤ P
theorem SeIn.below {P : Nat} {s : Se} (h : SeIn wr lo Wb M G B P s) (b : Below wr.heap.size wr w') : SeIn w' lo Wb M G B P s := by
  obtain ⟨c, h1, h2⟩ := h.b
  exact ⟨⟨c, (b.block P (lt_of_block h1)).trans h1, h2⟩, h.ok, h.ne⟩
theorem SeIn.val {P : Nat} {s : Se} (h : SeIn wr lo Wb M G B P s) : wr.cell? ⟨P, 0, none⟩ = some (.int .i64 s.val) := by
  obtain ⟨c, h1, h2⟩ := h.b
  exact Blk.cell (t := 73) h1 h2.val
theorem see_one {P : Nat} {s : Se} (h : Lw w wr lo Wb M G B g) (hs : SeIn wr lo Wb M G B P s) (hT : g.T + 1 < 4611686018427387904) :
    Calls Tryd.prog 21 #[.pointer (some ⟨P, 0, none⟩), .pointer (some ⟨M, 0, none⟩)] wr fun e w' => e = .returned (.bool (decide ((s.step KC B g).1.pc = 4))) ∧ Lw w w' lo Wb M G B (s.step KC B g).2 ∧ SeIn w' lo Wb M G B P (s.step KC B g).1 := by
  obtain ⟨c, h1, h2⟩ := hs.b
  have hn := hs.ne
  have hl := h.gw.lo1
  have hw := h.ne
  exact (se_any KC_ok (by decide) (InF.start h.gw h1 ⟨hn.1, hn.2.1, hn.2.2.1⟩ hn.2.2.2.2) h2 hs.ok hT).mono fun _ _ ⟨e1, c', i2, i3⟩ =>
    ⟨e1, h.cm i2.gw i2.cm (fun i hi => by simp at hi; rcases hi with rfl | rfl | rfl | rfl <;> omega), ⟨c', i2.blk, i3⟩, Se.step_ok KC_ok (by decide) hs.ok (h.gw.mem.fits 0) h.gw.now, hn⟩
theorem see_go {P : Nat} {s : Se} {m : Nat} {z : Int} (h : Lw w wr lo Wb M G B g) (hs : SeIn wr lo Wb M G B P s) (hT : g.T + 1 < 4611686018427387904) (st : SeOn s g z m) :
    ∃ bd : Bool, (bd = false → 2 ≤ m) ∧ Calls Tryd.prog 21 #[.pointer (some ⟨P, 0, none⟩), .pointer (some ⟨M, 0, none⟩)] wr fun e w' => e = .returned (.bool bd) ∧ ∃ s', Lw w w' lo Wb M G B { g with T := g.T + 1 } ∧ SeIn w' lo Wb M G B P s' ∧ (bd = true → s'.pc = 4 ∧ s'.val = z) ∧ (bd = false → SeOn s' { g with T := g.T + 1 } z (m - 1)) := by
  obtain ⟨e0, nx⟩ := se_step st B
  have c := see_one h hs hT
  rw [e0] at c nx
  refine ⟨decide ((s.step KC B g).1.pc = 4), fun hb => ?_, c.mono fun e w' ⟨e1, e2, e3⟩ => ⟨e1, _, e2, e3, fun hb => ?_, fun hb => ?_⟩⟩
  · have hb' : (s.step KC B g).1.pc ≠ 4 := by simpa using hb
    rcases nx with ⟨a, _⟩ | ⟨_, a, _⟩
    · exact absurd a hb'
    · exact a
  · have hb' : (s.step KC B g).1.pc = 4 := by simpa using hb
    rcases nx with a | ⟨a, _⟩
    · exact a
    · exact absurd hb' a
  · have hb' : (s.step KC B g).1.pc ≠ 4 := by simpa using hb
    rcases nx with ⟨a, _⟩ | ⟨_, _, a⟩
    · exact absurd a hb'
    · exact a
/-- Behind its end a See's step does nothing. -/
theorem see_end {P : Nat} {s : Se} (h : Lw w wr lo Wb M G B g) (hs : SeIn wr lo Wb M G B P s) (hp : s.pc = 4) (hT : g.T + 1 < 4611686018427387904) :
    Calls Tryd.prog 21 #[.pointer (some ⟨P, 0, none⟩), .pointer (some ⟨M, 0, none⟩)] wr fun e w' => e = .returned (.bool true) ∧ Lw w w' lo Wb M G B g ∧ SeIn w' lo Wb M G B P s := by
  have e : s.step KC B g = (s, g) := by
    unfold Se.step
    rw [if_neg (by omega), if_neg (by omega), if_neg (by omega), if_neg (by omega)]
  have c := see_one h hs hT
  rw [e] at c
  exact c.mono fun _ _ ⟨e1, e2, e3⟩ => ⟨by rw [e1]; simp [hp], e2, e3⟩
/-- A Turn's block. -/
structure TuIn (wr : World) (lo Wb M G B P : Nat) (t : Tu) : Prop where
  b : ∃ c, wr.heap[P]? = some (.cells c 70 (0, 0)) ∧ TuAt c B t
  ok : t.Ok
  ne : P ≠ M ∧ P ≠ G ∧ P ≠ B ∧ P ≠ Wb ∧ lo ≤ P
theorem TuIn.view {P : Nat} {t : Tu} (h : TuIn wr lo Wb M G B P t) : wr.cell? ⟨P, 0, none⟩ = some (.int .u64 (t.view : Nat)) := by
  obtain ⟨c, h1, h2⟩ := h.b
  exact Blk.cell (t := 70) h1 h2.view
theorem turn_one {P : Nat} {t : Tu} (h : Lw w wr lo Wb M G B g) (hs : TuIn wr lo Wb M G B P t) (hT : g.T + 1 < 4611686018427387904) :
    Calls Tryd.prog 19 #[.pointer (some ⟨P, 0, none⟩), .pointer (some ⟨M, 0, none⟩)] wr fun e w' => e = .returned (.bool (decide ((t.step g).1.pc = 2))) ∧ Lw w w' lo Wb M G B (t.step g).2 ∧ TuIn w' lo Wb M G B P (t.step g).1 := by
  obtain ⟨c, h1, h2⟩ := hs.b
  have hn := hs.ne
  have hl := h.gw.lo1
  have hw := h.ne
  exact (tu_any (InF.start h.gw h1 ⟨hn.1, hn.2.1, hn.2.2.1⟩ hn.2.2.2.2) h2 hs.ok hT (by rw [KC_N]; omega)).mono fun _ _ ⟨e1, c', i2, i3⟩ =>
    ⟨e1, h.cm i2.gw i2.cm (fun i hi => by simp at hi; rcases hi with rfl | rfl | rfl | rfl <;> omega), ⟨c', i2.blk, i3⟩, Tu.step_ok hs.ok (h.gw.mem.fits 0), hn⟩
end
/-- A Turn alone: two steps, and the view is the clock. -/
theorem tu_two {g : Gs} {n : Nat} {ch : List Rc} {clk : Nat} (h : Vi g n ch clk) (hc : clk + 1 < 1000) : ((⟨0, 0, 0, 0⟩ : Tu).step g).1.pc = 1 ∧ ((⟨0, 0, 0, 0⟩ : Tu).step g).2 = { g with T := g.T + 1 } ∧ ∀ g1 : Gs, g1.X = g.X → ((((⟨0, 0, 0, 0⟩ : Tu).step g).1.step g1).1.pc = 2 ∧ (((⟨0, 0, 0, 0⟩ : Tu).step g).1.step g1).1.view = clk ∧ Vi (((⟨0, 0, 0, 0⟩ : Tu).step g).1.step g1).2 n ch (clk + 1) ∧ (((⟨0, 0, 0, 0⟩ : Tu).step g).1.step g1).2.T = g1.T + 1) := by
  have e1 : (⟨0, 0, 0, 0⟩ : Tu).step g = (⟨0, 0, 1, clk⟩, { g with T := g.T + 1 }) := by
    unfold Tu.step
    rw [if_pos rfl, h.clock]
  rw [e1]
  refine ⟨rfl, rfl, fun g1 hx => ?_⟩
  have hck : g1.X.getD 0 0 = clk := by rw [hx]; exact h.clock
  have e2 : (⟨0, 0, 1, clk⟩ : Tu).step g1 = (⟨clk, optI (((⟨0, 0, 1, clk⟩ : Tu).swap g1).k.turned clk), 2, clk⟩, (⟨0, 0, 1, clk⟩ : Tu).swap g1) := by
    unfold Tu.step
    rw [if_neg (by show ¬ (1 : Int) = 0; omega), if_pos rfl]
  rw [e2]
  have e3 : (⟨0, 0, 1, clk⟩ : Tu).swap g1 = ⟨g1.X.set 0 (Mm.sumW clk 1), g1.T + 1, { g1.k with turned := upd g1.k.turned clk g1.k.now }⟩ := by
    unfold Tu.swap
    rw [if_pos hck]
  have e4 : Mm.sumW clk 1 = clk + 1 := by
    unfold Mm.sumW
    omega
  rw [e3, e4, hx]
  exact ⟨rfl, rfl, h.turn hc _ _, rfl⟩
end Go.Proofs.YtnegdabcjnhpdaaDoor
/- One machine alone, beside two rows of numbers that are its maker's own. -/
namespace Go.Proofs.YtnegdabcjnhpdaaDoor
open Go.RowKit
open Mm (IsMem MS touched Only)
open Hh (WT)
/-- Rows of plain numbers, from a block on, stay. -/
def Kp (base : Nat) (w w' : World) : Prop := ∀ (i : Nat) (c : Array Value) (e : TypeId) (f : Nat × Nat), base ≤ i → (e = 34 ∨ e = 3) → w.heap[i]? = some (.cells c e f) → w'.heap[i]? = some (.cells c e f)
theorem Kp.own {base : Nat} {w w' : World} (k : Kp base w w') {e : TypeId} (he : e = 34 ∨ e = 3) {v : Value} {n : Nat} {xs : List Value} (h : w.ownsRow base e 1 v n xs) : w'.ownsRow base e 1 v n xs := by
  refine ⟨h.1, ?_⟩
  rcases h.2 with hn | ⟨g, cap, cur, rfl, hb, hgg, rest⟩
  · exact .inl hn
  · exact .inr ⟨g, cap, cur, rfl, hb, k g cur e _ hb he hgg, rest⟩
theorem Kp.of_below {base : Nat} {w w' : World} (b : Below w.heap.size w w') : Kp base w w' := fun i _ _ _ _ _ h => (b.block i (lt_of_block h)).trans h
theorem Kp.of_cm {base lo : Nat} {L : List Nat} {w w' : World} (c : Cm lo L w w') (hL : ∀ i ∈ L, i < base ∨ ∃ c t f, w.heap[i]? = some (.cells c t f) ∧ t ≠ 34 ∧ t ≠ 3) : Kp base w w' := fun i cc e f hi he h =>
  c.at h fun hm => by
    rcases hL i hm with h1 | ⟨c', t, f', h1, h2, h3⟩
    · omega
    · rw [h] at h1
      cases h1
      rcases he with rfl | rfl
      · exact h2 rfl
      · exact h3 rfl
theorem GW.chg {w w' : World} {lo M G B N : Nat} {g : Gs} {L : List Nat} (h : GW w lo M G B N g) (ch : Chg L w w') (hn : M ∉ L ∧ G ∉ L ∧ B ∉ L) (h0 : 0 ∉ L) (hL : ∀ i ∈ L, (w.heap.size ≤ i ∨ ∃ c t f, w.heap[i]? = some (.cells c t f))) : GW w' lo M G B N g := by
  have hl1 := h.lo1
  refine ⟨h.mem.chg ch hn.1 hn.2.1, ?_, WT.chg h.wt ch h0, h.len, h.tb, h.now, h.ne, by have := ch.size; omega⟩
  obtain ⟨mb, mt, x⟩ := h.book
  exact ⟨mb, mt, x.chg ch hn.2.2 hL⟩
/-- The law's world, and the rows of views and of what was. -/
structure Vw (w wr : World) (lo Wb M G B base : Nat) (g : Gs) (vi wa : Value) (vs : List Nat) (ws : List Int) : Prop where
  lw : Lw w wr lo Wb M G B g
  ov : wr.ownsRow base 34 1 vi vs.length (vs.map fun x => .int .u64 (x : Nat))
  ow : wr.ownsRow base 3 1 wa ws.length (ws.map fun x => .int .i64 x)
  hb : Wb < base ∧ M < base ∧ G < base ∧ B < base ∧ base ≤ wr.heap.size
section
variable {w wr w' : World} {lo Wb M G B base : Nat} {g : Gs} {vi wa : Value} {vs : List Nat} {ws : List Int}
theorem Vw.kp {g' : Gs} (h : Vw w wr lo Wb M G B base g vi wa vs ws) (hl : Lw w w' lo Wb M G B g') (k : Kp base wr w') (hs : wr.heap.size ≤ w'.heap.size) : Vw w w' lo Wb M G B base g' vi wa vs ws :=
  ⟨hl, k.own (.inl rfl) h.ov, k.own (.inr rfl) h.ow, by have := h.hb; omega⟩
theorem Vw.below (h : Vw w wr lo Wb M G B base g vi wa vs ws) (b : Below wr.heap.size wr w') : Vw w w' lo Wb M G B base g vi wa vs ws := h.kp (h.lw.below b) (Kp.of_below b) b.size
theorem Vw.drew (h : Vw w wr lo Wb M G B base g vi wa vs ws) : Vw w wr.drew lo Wb M G B base g vi wa vs ws := h.below (Below.refl _ _).drew
theorem Vw.only {g' : Gs} (h : Vw w wr lo Wb M G B base g vi wa vs ws) (hg : GW w' lo M G B KC.N g') (o : Only M G wr w') : Vw w w' lo Wb M G B base g' vi wa vs ws :=
  h.kp (h.lw.only hg o) (fun i _ _ _ hi _ hx => (o.block i (lt_of_block hx) (by have := h.hb; omega) (by have := h.hb; omega)).trans hx) o.size
theorem Vw.setM (h : Vw w wr lo Wb M G B base g vi wa vs ws) : Vw w (wr.setCell ⟨Wb, 6, none⟩ (.pointer (some ⟨M, 0, none⟩))) lo Wb M G B base g vi wa vs ws :=
  h.kp h.lw.setM (fun i _ _ _ hi _ hx => (Below.heap_setCell _ ⟨Wb, 6, none⟩ _ i (by have := h.hb; show i ≠ Wb; omega)).trans hx) (by simp [World.setCell])
/-- A row has grown. -/
theorem Lw.grown {v : Value} {e : TypeId} {n : Nat} {xs : List Value} (h : Lw w wr lo Wb M G B g) (ho : wr.ownsRow base e 1 v n xs) (hb : Wb < base ∧ M < base ∧ G < base ∧ B < base) (hg : wr.grownBy w' v.ownBlock) : Lw w w' lo Wb M G B g := by
  have c : Chg v.ownBlock.toList wr w' := ⟨hg.os, hg.tape, hg.output, hg.size, fun i hi hn => hg.block i hi fun x => hn (by rw [← x]; simp)⟩
  have far : ∀ i, i < base → i ∉ v.ownBlock.toList := fun i hi hm => by
    have := (ho.lt i (by simpa using hm)).1
    omega
  have hl := h.gw.lo1
  have hlo := h.hlo
  refine ⟨h.gw.chg c ⟨far M hb.2.1, far G hb.2.2.1, far B hb.2.2.2⟩ (far 0 (by omega)) (fun i hi => ?_), c.at h.wb (far Wb hb.1), c.below h.bel (fun i hi => ?_) (Nat.le_refl _), h.ne, h.hlo⟩
  · rcases ho.2 with ⟨rfl, _⟩ | ⟨r, cap, cur, rfl, _, hr, _⟩
    · simp [Value.ownBlock] at hi
    · simp [Value.ownBlock] at hi
      subst hi
      exact .inr ⟨_, _, _, hr⟩
  · have := (ho.lt i (by simpa using hi)).1
    omega
theorem row_apart {v u : Value} {n k : Nat} {xs ys : List Value} (hv : wr.ownsRow base 34 1 v n xs) (hu : wr.ownsRow base 3 1 u k ys) : u.ownBlock = none ∨ u.ownBlock ≠ v.ownBlock := by
  rcases hv.2 with ⟨rfl, _⟩ | ⟨r, cap, cur, rfl, _, hr, _⟩ <;> rcases hu.2 with ⟨rfl, _⟩ | ⟨r', cap', cur', rfl, _, hr', _⟩
  · simp [Value.ownBlock]
  · simp [Value.ownBlock]
  · simp [Value.ownBlock]
  · right
    simp [Value.ownBlock]
    intro e
    subst e
    rw [hr] at hr'
    cases hr'
theorem Vw.pushV {o : Obj} {x r cap : Nat} (h : Vw w wr lo Wb M G B base g vi wa vs ws) (hg : (wr.alloc o).grownBy w' vi.ownBlock) (hown : w'.ownsRow base 34 1 (.slice (some ⟨r, 0, none⟩) (vs.length + 1) cap) (vs.length + 1) ((vs.map fun x => .int .u64 (x : Nat)) ++ [.int .u64 (x : Nat)])) :
    Vw w w' lo Wb M G B base g (.slice (some ⟨r, 0, none⟩) (vs.length + 1) cap) wa (vs ++ [x]) ws := by
  have a := h.below (alloc_below wr o)
  refine ⟨a.lw.grown a.ov (by have := h.hb; omega) hg, ?_, a.ow.kept hg (row_apart a.ov a.ow), ?_⟩
  · rw [List.length_append, List.map_append]; exact hown
  · have := a.hb
    have := hg.size
    omega
theorem Vw.pushW {o : Obj} {x : Int} {r cap : Nat} (h : Vw w wr lo Wb M G B base g vi wa vs ws) (hg : (wr.alloc o).grownBy w' wa.ownBlock) (hown : w'.ownsRow base 3 1 (.slice (some ⟨r, 0, none⟩) (ws.length + 1) cap) (ws.length + 1) ((ws.map fun x => .int .i64 x) ++ [.int .i64 x])) :
    Vw w w' lo Wb M G B base g vi (.slice (some ⟨r, 0, none⟩) (ws.length + 1) cap) vs (ws ++ [x]) := by
  have a := h.below (alloc_below wr o)
  refine ⟨a.lw.grown a.ow (by have := h.hb; omega) hg, a.ov.kept hg ?_, ?_, ?_⟩
  · rcases row_apart a.ov a.ow with h1 | h1
    · by_cases h2 : vi.ownBlock = none
      · exact .inl h2
      · exact .inr (by rw [h1]; exact h2)
    · exact .inr (Ne.symm h1)
  · rw [List.length_append, List.map_append]; exact hown
  · have := a.hb
    have := hg.size
    omega
theorem lay_one2 {P : Nat} {l : La} (h : Vw w wr lo Wb M G B base g vi wa vs ws) (hl : LaIn wr lo Wb M G B P l) (hT : g.T + 1 < 4611686018427387904) :
    Calls Tryd.prog 17 #[.pointer (some ⟨P, 0, none⟩), .pointer (some ⟨M, 0, none⟩)] wr fun e w' => ∃ Q, e = .returned (.bool (decide ((l.step KC B Q g).1.pc = 6))) ∧ Vw w w' lo Wb M G B base (l.step KC B Q g).2 vi wa vs ws ∧ LaIn w' lo Wb M G B P (l.step KC B Q g).1 := by
  obtain ⟨c, h1, h2⟩ := hl.b
  have hn := hl.ne
  have hlo := h.lw.gw.lo1
  have hw := h.lw.ne
  have hb := h.hb
  refine (la_any KC_ok (by decide) (InF.start h.lw.gw h1 ⟨hn.1, hn.2.1, hn.2.2.1⟩ hn.2.2.2.2) h2 hl.ok hl.sh hT).mono fun _ _ ⟨Q, e1, e2, e3⟩ => ⟨Q, e1, h.kp (h.lw.cm e2.gw e2.cm (fun i hi => ?_)) (Kp.of_cm e2.cm fun i hi => ?_) e2.cm.size, e2.blk, La.step_ok KC_ok (by decide) hl.ok Q (fun i => h.lw.gw.mem.fits i) h.lw.gw.now, hn, e2.sh⟩
  · simp only [List.mem_cons] at hi
    rcases hi with rfl | rfl | rfl | rfl | hi
    · omega
    · omega
    · omega
    · omega
    · unfold La.qs at hi
      split at hi
      · rename_i s hs
        simp at hi
        subst hi
        obtain ⟨q1, _, _, _, _, q6⟩ := hl.sh s hs
        refine ⟨q6, fun e => ?_⟩
        have q1' : wr.heap[s.Q]? = _ := q1
        rw [e, h.lw.wb] at q1'
        cases q1'
      · cases hi
  · simp only [List.mem_cons] at hi
    rcases hi with rfl | rfl | rfl | rfl | hi
    · exact .inr ⟨_, _, _, h1, by decide, by decide⟩
    · left; omega
    · left; omega
    · left; omega
    · unfold La.qs at hi
      split at hi
      · rename_i s hs
        simp at hi
        subst hi
        obtain ⟨q1, _⟩ := hl.sh s hs
        exact .inr ⟨_, _, _, q1, by decide, by decide⟩
      · cases hi
theorem lay_vi2 {P : Nat} {l : La} {n m : Nat} {ch : List Rc} {clk : Nat} {v : Int} (h : Vw w wr lo Wb M G B base g vi wa vs ws) (hl : LaIn wr lo Wb M G B P l) (hT : g.T + 1 < 4611686018427387904) (st : VyOn l g n ch clk v m) :
    ∃ bd : Bool, (bd = false → 1 ≤ m) ∧ Calls Tryd.prog 17 #[.pointer (some ⟨P, 0, none⟩), .pointer (some ⟨M, 0, none⟩)] wr fun e w' => e = .returned (.bool bd) ∧ ∃ l' g', Vw w w' lo Wb M G B base g' vi wa vs ws ∧ LaIn w' lo Wb M G B P l' ∧ (g.T ≤ g'.T ∧ g'.T ≤ g.T + 1) ∧ (bd = true → Vi g' (n + 1) (⟨n, clk, v⟩ :: ch) clk) ∧ (bd = false → VyOn l' g' n ch clk v (m - 1)) := by
  have nx : ∀ Q, VNext (l.step KC B Q g) n ch clk v m := fun Q => by
    rcases st with ⟨a, b⟩ | a
    · exact vy_step a b B Q
    · exact vsty_step a B Q
  refine ⟨decide ((l.step KC B 0 g).1.pc = 6), fun hb => ?_, (lay_one2 h hl hT).mono fun e w' ⟨Q, e1, e2, e3⟩ => ⟨?_, _, _, e2, e3, l.step_T KC B Q g, fun hb => ?_, fun hb => ?_⟩⟩
  · have hb' : (l.step KC B 0 g).1.pc ≠ 6 := by simpa using hb
    rcases nx 0 with ⟨a, _⟩ | ⟨_, a, _⟩
    · exact absurd a hb'
    · exact a
  · rw [e1, (l.step_Q0 KC B Q g).1]
  · have hb' : (l.step KC B Q g).1.pc = 6 := by rw [(l.step_Q0 KC B Q g).1]; simpa using hb
    rcases nx Q with ⟨_, a⟩ | ⟨a, _⟩
    · exact a
    · exact absurd hb' a
  · have hb' : (l.step KC B Q g).1.pc ≠ 6 := by rw [(l.step_Q0 KC B Q g).1]; simpa using hb
    rcases nx Q with ⟨a, _⟩ | ⟨_, _, a⟩
    · exact absurd a hb'
    · exact a
theorem see_one2 {P : Nat} {s : Se} (h : Vw w wr lo Wb M G B base g vi wa vs ws) (hs : SeIn wr lo Wb M G B P s) (hT : g.T + 1 < 4611686018427387904) :
    Calls Tryd.prog 21 #[.pointer (some ⟨P, 0, none⟩), .pointer (some ⟨M, 0, none⟩)] wr fun e w' => e = .returned (.bool (decide ((s.step KC B g).1.pc = 4))) ∧ Vw w w' lo Wb M G B base (s.step KC B g).2 vi wa vs ws ∧ SeIn w' lo Wb M G B P (s.step KC B g).1 := by
  obtain ⟨c, h1, h2⟩ := hs.b
  have hn := hs.ne
  have hl := h.lw.gw.lo1
  have hw := h.lw.ne
  have hb := h.hb
  exact (se_any KC_ok (by decide) (InF.start h.lw.gw h1 ⟨hn.1, hn.2.1, hn.2.2.1⟩ hn.2.2.2.2) h2 hs.ok hT).mono fun _ _ ⟨e1, c', i2, i3⟩ =>
    ⟨e1, h.kp (h.lw.cm i2.gw i2.cm (fun i hi => by simp at hi; rcases hi with rfl | rfl | rfl | rfl <;> omega)) (Kp.of_cm i2.cm fun i hi => by
      simp at hi
      rcases hi with rfl | rfl | rfl | rfl
      · exact .inr ⟨_, _, _, h1, by decide, by decide⟩
      · left; omega
      · left; omega
      · left; omega) i2.cm.size, ⟨c', i2.blk, i3⟩, Se.step_ok KC_ok (by decide) hs.ok (h.lw.gw.mem.fits 0) h.lw.gw.now, hn⟩
theorem see_go2 {P : Nat} {s : Se} {m : Nat} {z : Int} (h : Vw w wr lo Wb M G B base g vi wa vs ws) (hs : SeIn wr lo Wb M G B P s) (hT : g.T + 1 < 4611686018427387904) (st : SeOn s g z m) :
    ∃ bd : Bool, (bd = false → 2 ≤ m) ∧ Calls Tryd.prog 21 #[.pointer (some ⟨P, 0, none⟩), .pointer (some ⟨M, 0, none⟩)] wr fun e w' => e = .returned (.bool bd) ∧ ∃ s', Vw w w' lo Wb M G B base { g with T := g.T + 1 } vi wa vs ws ∧ SeIn w' lo Wb M G B P s' ∧ (bd = true → s'.pc = 4 ∧ s'.val = z) ∧ (bd = false → SeOn s' { g with T := g.T + 1 } z (m - 1)) := by
  obtain ⟨e0, nx⟩ := se_step st B
  have c := see_one2 h hs hT
  rw [e0] at c nx
  refine ⟨decide ((s.step KC B g).1.pc = 4), fun hb => ?_, c.mono fun e w' ⟨e1, e2, e3⟩ => ⟨e1, _, e2, e3, fun hb => ?_, fun hb => ?_⟩⟩
  · have hb' : (s.step KC B g).1.pc ≠ 4 := by simpa using hb
    rcases nx with ⟨a, _⟩ | ⟨_, a, _⟩
    · exact absurd a hb'
    · exact a
  · have hb' : (s.step KC B g).1.pc = 4 := by simpa using hb
    rcases nx with a | ⟨a, _⟩
    · exact a
    · exact absurd hb' a
  · have hb' : (s.step KC B g).1.pc ≠ 4 := by simpa using hb
    rcases nx with ⟨a, _⟩ | ⟨_, _, a⟩
    · exact absurd a hb'
    · exact a
theorem see_end2 {P : Nat} {s : Se} (h : Vw w wr lo Wb M G B base g vi wa vs ws) (hs : SeIn wr lo Wb M G B P s) (hp : s.pc = 4) (hT : g.T + 1 < 4611686018427387904) :
    Calls Tryd.prog 21 #[.pointer (some ⟨P, 0, none⟩), .pointer (some ⟨M, 0, none⟩)] wr fun e w' => e = .returned (.bool true) ∧ Vw w w' lo Wb M G B base g vi wa vs ws ∧ SeIn w' lo Wb M G B P s := by
  have e : s.step KC B g = (s, g) := by
    unfold Se.step
    rw [if_neg (by omega), if_neg (by omega), if_neg (by omega), if_neg (by omega)]
  have c := see_one2 h hs hT
  rw [e] at c
  exact c.mono fun _ _ ⟨e1, e2, e3⟩ => ⟨by rw [e1]; simp [hp], e2, e3⟩
theorem turn_one2 {P : Nat} {t : Tu} (h : Vw w wr lo Wb M G B base g vi wa vs ws) (hs : TuIn wr lo Wb M G B P t) (hT : g.T + 1 < 4611686018427387904) :
    Calls Tryd.prog 19 #[.pointer (some ⟨P, 0, none⟩), .pointer (some ⟨M, 0, none⟩)] wr fun e w' => e = .returned (.bool (decide ((t.step g).1.pc = 2))) ∧ Vw w w' lo Wb M G B base (t.step g).2 vi wa vs ws ∧ TuIn w' lo Wb M G B P (t.step g).1 := by
  obtain ⟨c, h1, h2⟩ := hs.b
  have hn := hs.ne
  have hl := h.lw.gw.lo1
  have hw := h.lw.ne
  have hb := h.hb
  exact (tu_any (InF.start h.lw.gw h1 ⟨hn.1, hn.2.1, hn.2.2.1⟩ hn.2.2.2.2) h2 hs.ok hT (by rw [KC_N]; omega)).mono fun _ _ ⟨e1, c', i2, i3⟩ =>
    ⟨e1, h.kp (h.lw.cm i2.gw i2.cm (fun i hi => by simp at hi; rcases hi with rfl | rfl | rfl | rfl <;> omega)) (Kp.of_cm i2.cm fun i hi => by
      simp at hi
      rcases hi with rfl | rfl | rfl | rfl
      · exact .inr ⟨_, _, _, h1, by decide, by decide⟩
      · left; omega
      · left; omega
      · left; omega) i2.cm.size, ⟨c', i2.blk, i3⟩, Tu.step_ok hs.ok (h.lw.gw.mem.fits 0), hn⟩
/-- A Turn alone, its two steps. -/
theorem turn_go {P n clk : Nat} {ch : List Rc} (h : Vw w wr lo Wb M G B base g vi wa vs ws) (hs : TuIn wr lo Wb M G B P ⟨0, 0, 0, 0⟩) (hv : Vi g n ch clk) (hc : clk + 1 < 1000) (hT : g.T + 2 < 4611686018427387904) :
    Calls Tryd.prog 19 #[.pointer (some ⟨P, 0, none⟩), .pointer (some ⟨M, 0, none⟩)] wr fun e w' => e = .returned (.bool false) ∧ ∃ t1 g1, Vw w w' lo Wb M G B base g1 vi wa vs ws ∧ TuIn w' lo Wb M G B P t1 ∧
      ∀ wz, Vw w wz lo Wb M G B base g1 vi wa vs ws → TuIn wz lo Wb M G B P t1 → Calls Tryd.prog 19 #[.pointer (some ⟨P, 0, none⟩), .pointer (some ⟨M, 0, none⟩)] wz fun e w' => e = .returned (.bool true) ∧ ∃ g2, Vw w w' lo Wb M G B base g2 vi wa vs ws ∧ Vi g2 n ch (clk + 1) ∧ g2.T = g.T + 2 ∧ w'.cell? ⟨P, 0, none⟩ = some (.int .u64 (clk : Nat)) := by
  obtain ⟨p1, p2, p3⟩ := tu_two hv hc
  have c := turn_one2 h hs (by omega)
  rw [p2] at c
  have p4 := p3 { g with T := g.T + 1 } rfl
  refine c.mono fun _ _ ⟨e1, e2, e3⟩ => ⟨by rw [e1]; simp [p1], _, _, e2, e3, fun wz a b => ?_⟩
  refine (turn_one2 a b (by show g.T + 1 + 1 < _; omega)).mono fun _ _ ⟨k1, k2, k3⟩ => ⟨by rw [k1]; simp [p4.1], _, k2, p4.2.2.1, by rw [p4.2.2.2]; show g.T + 1 + 1 = g.T + 2; omega, ?_⟩
  have := k3.view
  rw [p4.2.1] at this
  exact this
theorem tu_new {P : Nat} {cc : Array Value} (hP : wr.heap[P]? = some (.cells cc 70 (0, 0))) (ht : TuAt cc B ⟨0, 0, 0, 0⟩) (hn : P ≠ M ∧ P ≠ G ∧ P ≠ B ∧ P ≠ Wb ∧ lo ≤ P) : TuIn wr lo Wb M G B P ⟨0, 0, 0, 0⟩ := ⟨⟨cc, hP, ht⟩, ⟨.inl rfl, by show 0 < _; omega⟩, hn⟩
theorem se_new {P v : Nat} {cc : Array Value} (hP : wr.heap[P]? = some (.cells cc 73 (0, 0))) (ht : SeAt cc B KC ⟨-1, nw0 (KC.bd 0 1), v, 0⟩) (hn : P ≠ M ∧ P ≠ G ∧ P ≠ B ∧ P ≠ Wb ∧ lo ≤ P) : SeIn wr lo Wb M G B P ⟨-1, nw0 (KC.bd 0 1), v, 0⟩ := ⟨⟨cc, hP, ht⟩, se0_ok (by rw [KC_bd, KC_N]; omega), hn⟩
end
end Go.Proofs.YtnegdabcjnhpdaaDoor
/- The law of views: the walk. -/
namespace Go.Proofs.YtnegdabcjnhpdaaDoor
open Go.RowKit
open Mm (IsMem MS touched Only)
open Hh (WT)
/-- Views that were taken, each with what the field had then. -/
def Was (vs : List Nat) (ws : List Int) (ch : List Rc) (clk : Nat) : Prop := vs.length = ws.length ∧ ∀ j, j < vs.length → vs.getD j 0 < clk ∧ look (vs.getD j 0) ch = ws.getD j 0
def topV (ch : List Rc) : Int := match ch with | [] => -1 | c :: _ => c.val
theorem Was.lay {vs : List Nat} {ws : List Int} {ch : List Rc} {clk : Nat} (h : Was vs ws ch clk) (n : Nat) (v : Int) : Was vs ws (⟨n, clk, v⟩ :: ch) clk :=
  ⟨h.1, fun j hj => ⟨(h.2 j hj).1, by rw [look_new (h.2 j hj).1]; exact (h.2 j hj).2⟩⟩
theorem Was.turn {vs : List Nat} {ws : List Int} {ch : List Rc} {clk : Nat} (h : Was vs ws ch clk) (hc : ∀ c ∈ ch, c.st ≤ clk) : Was (vs ++ [clk]) (ws ++ [topV ch]) ch (clk + 1) := by
  refine ⟨by simp [h.1], fun j hj => ?_⟩
  have hl := h.1
  simp at hj
  simp only [List.getD_eq_getElem?_getD]
  by_cases e : j < vs.length
  · have := h.2 j e
    simp only [List.getD_eq_getElem?_getD] at this
    rw [List.getElem?_append_left e, List.getElem?_append_left (by omega)]
    exact ⟨by omega, this.2⟩
  · obtain rfl : j = vs.length := by omega
    rw [List.getElem?_append_right (Nat.le_refl _), hl, List.getElem?_append_right (Nat.le_refl _)]
    simp
    rw [look_top hc]
    cases ch <;> rfl
theorem Lw.start {w wr : World} {lo Wb M G B : Nat} {g : Gs} (h : Lw w wr lo Wb M G B g) : Vw w wr lo Wb M G B wr.heap.size g (.slice none 0 0) (.slice none 0 0) [] [] := by
  have hM := h.gw.mem.lt
  have hB : B < wr.heap.size := by obtain ⟨_, _, x⟩ := h.gw.book; exact x.lt
  have hW := lt_of_block h.wb
  exact ⟨h, ⟨rfl, .inl ⟨rfl, rfl⟩⟩, ⟨rfl, .inl ⟨rfl, rfl⟩⟩, by omega⟩
theorem own_form {w : World} {base : Nat} {e : TypeId} {v : Value} {n : Nat} {xs : List Value} (h : w.ownsRow base e 1 v n xs) : ∃ ad cap, v = .slice ad n cap := by
  rcases h.2 with ⟨h1, h2⟩ | ⟨g, cap, _, h1, _⟩
  · exact ⟨none, 0, by rw [h1, h2]⟩
  · exact ⟨_, cap, h1⟩
theorem own_at {w : World} {base : Nat} {e : TypeId} {ad : Option Addr} {n cap : Nat} {xs : List Value} (h : w.ownsRow base e 1 (.slice ad n cap) n xs) {j : Nat} (hj : j < n) : ∃ r, ad = some ⟨r, 0, none⟩ ∧ ∀ u, xs[j]? = some u → w.cell? ⟨r, j, none⟩ = some u := by
  rcases h.2 with ⟨h1, h2⟩ | ⟨g, cap', cur, h1, _⟩
  · omega
  · cases h1
    refine ⟨g, rfl, fun u hu => ?_⟩
    have := h.cells (g := g) rfl j u hu
    rw [Op.add_none, Nat.zero_add] at this
    exact this
theorem infoV34 : (Tryd.prog.info? 34).map (fun i => (i.zero, i.size, i.bytes)) = some (some (.int .u64 0), 1, 8) := by kernel_rfl
theorem infoV3 : (Tryd.prog.info? 3).map (fun i => (i.zero, i.size, i.bytes)) = some (some (.int .i64 0), 1, 8) := by kernel_rfl
set_option maxRecDepth 100000 in
set_option maxHeartbeats 16000000 in
theorem views_law (ad : Option Addr) (len cap : Nat) (Z : Nat → Int) {w : World} (hZ : RdY w ad len Z) (hB : ∀ j, j < len → 0 ≤ Z j ∧ Z j ≤ 255) (hw : WT w) :
    Calls Tryd.prog 5 #[.slice ad len cap] w fun e w' => e = .returned (.bool true) ∧ Below w.heap.size w w' := by
  have cA := fun (wr : World) (h : Below w.heap.size w wr) => awake_any (hw.below h)
  have b0 := Below.refl w.heap.size w
  by_cases hl : 30 < len
  · have hlI : (30 : Int) < (len : Int) := by omega
    go_enter Tryd.func5, Tryd.ntmps5
    go_wp2_with (go_at_call 7; refine (cA _ b0).mono ?_; rintro e w1 ⟨rfl, b1⟩)
    go_ret
    exact ⟨rfl, b1⟩
  · have hlI : ¬ (30 : Int) < (len : Int) := by omega
    have c8 := fun (wr : World) (h : Below w.heap.size w wr) => begin_any (hw.below h)
    obtain ⟨i34, hi34, hz34, hy34, hx34⟩ := info_parts infoV34
    obtain ⟨i3, hi3, hz3, hy3, hx3⟩ := info_parts infoV3
    go_enter Tryd.func5, Tryd.ntmps5
    go_upto_region 6 with (first
      | (go_at_call 7; refine (cA _ b0).mono ?_; rintro e w1 ⟨rfl, b1⟩)
      | (go_at_call 8; refine (c8 _ b1).mono ?_; rintro e w2 ⟨Wb, M, G, B, rfl, bg⟩))
    have lw := Lw.ofBegun b1 bg
    have vw := lw.start
    have hvi := vi0
    have hT0 : g0.T = 0 := rfl
    clear bg c8 lw
    generalize w1.heap.size = lo at *
    generalize w2.heap.size = base at vw
    clear b1 b0
    go_wp2
    go_loopw [4, 5, 6, 7] (fun wa vi la ii wr => ∃ (i : Nat) (ch : List Rc) (clk : Nat) (g : Gs) (vs : List Nat) (ws : List Int), i ≤ len ∧ ii = .int .i64 i ∧ la = .int .i64 (topV ch) ∧ (-1 ≤ topV ch ∧ topV ch < 100) ∧ ch.length ≤ i ∧ Vi g (5 + i) ch clk ∧ clk ≤ 1 + i ∧ vs.length ≤ i ∧ Was vs ws ch clk ∧ (0 ≤ g.T ∧ g.T ≤ 40 * i) ∧ Vw w wr lo Wb M G B base g vi wa vs ws) (fun _ _ _ ii _ => len - (intOf ii).toNat)
    case atStart => exact ⟨0, [], 1, g0, [], [], Nat.zero_le _, rfl, rfl, by show (-1 : Int) ≤ -1 ∧ (-1 : Int) < 100; omega, Nat.le_refl _, hvi, by omega, Nat.le_refl _, ⟨rfl, fun j hj => by simp at hj⟩, by rw [hT0]; omega, vw⟩
    case round =>
      clear vw hvi hT0
      obtain ⟨i, ch, clk, g, vs, ws, hi, rfl, rfl, htop, hcl, hvi, hclk, hvl, hwas, hT, vw⟩ := hrel
      obtain ⟨tv, htv⟩ : ∃ tv, topV ch = tv := ⟨_, rfl⟩
      rw [htv] at htop ⊢
      have hcf6 : ∀ wr g vi wa vs ws, Vw w wr lo Wb M G B base g vi wa vs ws → (wr.cell? ⟨Wb, 0, none⟩ = some (.int .i64 40) ∧ wr.cell? ⟨Wb, 1, none⟩ = some (.int .i64 3) ∧ wr.cell? ⟨Wb, 2, none⟩ = some (.int .i64 1) ∧ wr.cell? ⟨Wb, 3, none⟩ = some (.int .i64 1) ∧ wr.cell? ⟨Wb, 4, none⟩ = some (.int .i64 9) ∧ wr.cell? ⟨Wb, 5, none⟩ = some (.int .i64 0)) ∧ wr.cell? ⟨Wb, 6, none⟩ = some (.pointer (some ⟨M, 0, none⟩)) := fun wr g vi wa vs ws x => ⟨x.lw.cf.1, x.lw.cellW rfl⟩
      have hcf7 : ∀ wr g vi wa vs ws, Vw w wr lo Wb M G B base g vi wa vs ws → (wr.cell? ⟨Wb, 0, none⟩ = some (.int .i64 40) ∧ wr.cell? ⟨Wb, 1, none⟩ = some (.int .i64 3) ∧ wr.cell? ⟨Wb, 2, none⟩ = some (.int .i64 1) ∧ wr.cell? ⟨Wb, 3, none⟩ = some (.int .i64 1) ∧ wr.cell? ⟨Wb, 4, none⟩ = some (.int .i64 9) ∧ wr.cell? ⟨Wb, 5, none⟩ = some (.int .i64 0)) ∧ wr.cell? ⟨Wb, 7, none⟩ = some (.pointer (some ⟨B, 0, none⟩)) := fun wr g vi wa vs ws x => x.lw.cf
      by_cases hin : i < len
      · have hiI : (i : Int) < (len : Int) := by omega
        obtain ⟨b, off, rfl, hbl, q0⟩ := hZ i hin
        have hz := hB i hin
        have qz : ∀ wr g vi wa vs ws, Vw w wr lo Wb M G B base g vi wa vs ws → wr.cell? ⟨b, off + i, none⟩ = some (.int .u8 (Z i)) := fun wr g vi wa vs ws x => (x.lw.bel.cell (p := ⟨b, off + i, none⟩) hbl).trans q0
        have q1 := qz _ _ _ _ _ _ vw
        have hck : clk + 1 < 1000 := by omega
        rcases (show Z i % 3 = 0 ∨ Z i % 3 = 1 ∨ Z i % 3 = 2 by omega) with h3 | h3 | h3
        · replace htv : Hid (topV ch = tv) := htv
          go_upto_region 20 with fail
          have vw := vw.drew
          clear q1
          go_region_held3 (fun wq => (wq.cell? ⟨Wb, 0, none⟩ = some (.int .i64 40) ∧ wq.cell? ⟨Wb, 1, none⟩ = some (.int .i64 3) ∧ wq.cell? ⟨Wb, 2, none⟩ = some (.int .i64 1) ∧ wq.cell? ⟨Wb, 3, none⟩ = some (.int .i64 1) ∧ wq.cell? ⟨Wb, 4, none⟩ = some (.int .i64 9) ∧ wq.cell? ⟨Wb, 5, none⟩ = some (.int .i64 0)) ∧ wq.cell? ⟨Wb, 7, none⟩ = some (.pointer (some ⟨B, 0, none⟩))) (with_reducible exact hcf7 _ _ _ _ _ _ vw)
            ((go_at_call 18; with_reducible refine (mkTurn _ _).mono ?_; rintro e w6 ⟨P3, cc, rfl, hP, hTu, hPl, bb⟩; have hne := vw.lw.new_ne hPl; replace vw := vw.below bb))
          have tu := tu_new (lo := lo) (Wb := Wb) (M := M) (G := G) hP hTu hne
          clear hP hTu hPl bb hne
          have c1 := turn_go vw tu hvi hck (by omega)
          have x6 : w6.cell? ⟨Wb, 6, none⟩ = some (.pointer (some ⟨M, 0, none⟩)) := vw.lw.cellW rfl
          go_upto_region 23 with (first
            | (go_at_call 19; with_reducible refine c1.mono ?_; rintro e w7 ⟨rfl, t1, g1, vw1, tu1, c2⟩; have x7 : w7.cell? ⟨Wb, 6, none⟩ = some (.pointer (some ⟨M, 0, none⟩)) := vw1.lw.cellW rfl)
            | (go_at_call 19; with_reducible refine (c2 _ vw1 tu1).mono ?_; rintro e w8 ⟨rfl, g2, vw2, hvi2, hT2, xv⟩))
          clear c1 c2 vw1 tu1 x7 x6 vw tu
          have h63 : vs.length + 1 ≤ maxLen := by unfold maxLen; omega
          have hby : (vs.length + 1) * 8 ≤ 140737488355328 := by omega
          have hwl := hwas.1
          have h63w : ws.length + 1 ≤ maxLen := by unfold maxLen; omega
          have hbyw : (ws.length + 1) * 8 ≤ 140737488355328 := by omega
          clear hwl
          go_wp2_with (first
            | (at_builtin; refine wpList_append_lies _ rfl _ _ _ rfl base 34 i34 _ 1 8 Tryd.underlying67 hi34 hz34 hy34 hx34 rfl (by decide) _ vs.length (vs.map fun x => .int .u64 (x : Nat)) rfl (vw2.ov.alloc _) ⟨w8.heap.size, 0, none⟩ 1 1 [.int .u64 (clk : Nat)] rfl rfl (World.news_of_block (cs := #[.int .u64 (clk : Nat)]) (t := 34) (fr := (0, 0)) (heap_alloc_new _ _)) (by simp [Value.oneCell']) (by omega) h63 hby (by have := vw2.hb; simp; omega) (w8.heap.size + 1) (by simp) ?_; intro r1 cap1 w9 hown1 hgrow1 _ _; have vw3 := vw2.pushV hgrow1 hown1)
            | (at_builtin; refine wpList_append_lies _ rfl _ _ _ rfl base 3 i3 _ 1 8 Tryd.underlying23 hi3 hz3 hy3 hx3 rfl (by decide) _ ws.length (ws.map fun x => .int .i64 x) rfl (vw3.ow.alloc _) ⟨w9.heap.size, 0, none⟩ 1 1 [.int .i64 tv] rfl rfl (World.news_of_block (cs := #[.int .i64 tv]) (t := 3) (fr := (0, 0)) (heap_alloc_new _ _)) (by simp [Value.oneCell']) (by omega) h63w hbyw (by have := vw3.hb; simp; omega) (w9.heap.size + 1) (by simp) ?_; intro r2 cap2 w10 hown2 hgrow2 _ _; have vw4 := vw3.pushW hgrow2 hown2))
          clear vw3 vw2 hown1 hgrow1 hown2 hgrow2
          go_roundw
          case rel => exact ⟨i + 1, ch, clk + 1, g2, vs ++ [clk], ws ++ [tv], by omega, by go_num, by rw [htv.out], by rw [htv.out]; exact htop, by omega, by rw [show 5 + (i + 1) = 5 + i + 1 by omega]; exact hvi2.mono, by omega, by simp; omega, by rw [← htv.out]; exact hwas.turn fun c hc => (hvi.lt c hc).2, by omega, vw4⟩
          case measure => simp [intOf]; omega
        · have h3p : (0 : Int) < Z i % 3 := by omega
          obtain ⟨v, hv⟩ : ∃ v, sl (Z i / 3 % 5 - 1) = v := ⟨_, rfl⟩
          have hvb : 0 ≤ v + 1 ∧ v + 1 < 10 := by rw [← hv]; unfold sl; split <;> omega
          have cV := slot_any (Z i / 3 % 5 - 1) (by omega)
          rw [hv] at cV
          replace hv : Hid (sl (Z i / 3 % 5 - 1) = v) := hv
          clear htv htop
          go_upto_region 14 with (go_at_call 13; with_reducible refine (cV _).mono ?_; rintro e w6 ⟨rfl, rfl⟩)
          have hn40 : 5 + i < 40 := by omega
          have cA2 : ∀ w, Calls Tryd.prog 15 #[.agg #[.int .i64 40, .int .i64 3, .int .i64 1, .int .i64 1, .int .i64 9, .int .i64 0], .string ⟨#[98, 111, 100, 121]⟩, .int .i64 (IntKind.i64.wrap (5 + (i : Int))), .int .i64 0] w fun e w' => e = .returned (.int .i64 (KC.bd (5 + i) 0 : Nat)) ∧ Below w.heap.size w w' := fun w => by
            rw [IntWalk.i64_in (5 + (i : Int)) (by omega), show (5 : Int) + (i : Int) = ((5 + i : Nat) : Int) by omega]
            exact at_body hn40 (i := 0) (by omega) w
          have hbN : KC.bd (5 + i) 0 < KC.N := by rw [KC_bd, KC_N]; omega
          obtain ⟨pl, hpl⟩ : ∃ pl, KC.bd (5 + i) 0 = pl := ⟨_, rfl⟩
          rw [hpl] at cA2 hbN
          replace hpl : Hid (KC.bd (5 + i) 0 = pl) := hpl
          have cL : ∀ wr vi wa vs ws, Vw w wr lo Wb M G B base g vi wa vs ws → Calls Tryd.prog 14 #[.pointer (some ⟨M, 0, none⟩), .int .i64 (pl : Nat), .int .u64 (IntKind.u64.wrap (IntKind.i64.wrap (v + 1)))] wr fun e w' => e = .returned (.pointer (some ⟨M, 0, none⟩)) ∧ Vw w w' lo Wb M G B base { g with X := g.X.set pl (v + 1).toNat, T := g.T + 1 } vi wa vs ws := fun wr vi wa vs ws x => by
            rw [IntWalk.i64_in (v + 1) (by omega), IntWalk.u64_in (v + 1) (by omega), show v + 1 = (((v + 1).toNat : Nat) : Int) by omega]
            exact (laid_any x.lw.gw hbN (by omega) (by omega)).mono fun _ _ ⟨h1, h2, h3⟩ => ⟨h1, x.only h2 h3⟩
          replace vw := vw.drew
          have fW6 := vw.lw.freeW 6
          clear q1
          go_region_held3 (fun wq => (wq.cell? ⟨Wb, 0, none⟩ = some (.int .i64 40) ∧ wq.cell? ⟨Wb, 1, none⟩ = some (.int .i64 3) ∧ wq.cell? ⟨Wb, 2, none⟩ = some (.int .i64 1) ∧ wq.cell? ⟨Wb, 3, none⟩ = some (.int .i64 1) ∧ wq.cell? ⟨Wb, 4, none⟩ = some (.int .i64 9) ∧ wq.cell? ⟨Wb, 5, none⟩ = some (.int .i64 0)) ∧ wq.cell? ⟨Wb, 6, none⟩ = some (.pointer (some ⟨M, 0, none⟩))) (first | with_reducible exact hcf6 _ _ _ _ _ _ i3 | with_reducible exact hcf6 _ _ _ _ _ _ i2 | with_reducible exact hcf6 _ _ _ _ _ _ vw)
            (first
              | (go_at_call 15; with_reducible refine (cA2 _).mono ?_; rintro e w7 ⟨rfl, hbb⟩; replace vw := vw.below hbb; clear hbb)
              | (go_at_call 14; with_reducible refine (cL _ _ _ _ _ vw).mono ?_; rintro e w8 ⟨rfl, i2⟩; have i3 := i2.setM; have fW6 := i2.lw.freeW 6))
          have hpo := hpl.out
          have hF : pl < g.X.length := by rw [hvi.len, ← hpo, KC_bd]; omega
          have hvi1 : Vi { g with X := g.X.set pl (v + 1).toNat, T := g.T + 1 } (5 + i) ch clk := hvi.store _ (by rw [← hpo, KC_bd]; omega) (by rw [← hpo, KC_bd, KC_bd]; omega) (fun s _ => by rw [← hpo, KC_bd, KC_bd]; omega) (fun s _ _ => ⟨by rw [← hpo, KC_bd, KC_bd]; omega, by rw [← hpo, KC_bd, KC_bd]; omega, by rw [← hpo, KC_bd, KC_bd]; omega⟩)
          have hval : nm KC (({ g with X := g.X.set pl (v + 1).toNat, T := g.T + 1 } : Gs).X.getD (KC.bd (5 + i) 0) 0) = v := by
            show nm KC ((g.X.set pl (v + 1).toNat).getD (KC.bd (5 + i) 0) 0) = v
            rw [hpo, getD_set_eq hF]
            unfold nm
            rw [if_pos (by show (v + 1).toNat ≤ 40; omega)]
            omega
          have hT1 : 0 ≤ ({ g with X := g.X.set pl (v + 1).toNat, T := g.T + 1 } : Gs).T ∧ ({ g with X := g.X.set pl (v + 1).toNat, T := g.T + 1 } : Gs).T ≤ 1 + 40 * i := by show 0 ≤ g.T + 1 ∧ g.T + 1 ≤ 1 + 40 * i; omega
          clear cL cA2 cV vw i2 fW6 hF hpo hvi hbN
          generalize ({ g with X := g.X.set pl (v + 1).toNat, T := g.T + 1 } : Gs) = g1 at *
          clear hT hpl
          generalize w8.setCell ⟨Wb, 6, none⟩ (.pointer (some ⟨M, 0, none⟩)) = w9 at *
          replace hvi1 : Hid _ := hvi1
          replace hval : Hid _ := hval
          go_upto_region 15 with fail
          have cY : ∀ B w, Calls Tryd.prog 16 #[.agg #[.int .i64 40, .int .i64 3, .int .i64 1, .int .i64 1, .int .i64 9, .int .i64 0], .int .i64 0, .int .i64 1, .int .i64 (IntKind.i64.wrap (5 + (i : Int))), .int .i64 (-2), .int .u64 0, .pointer (some ⟨B, 0, none⟩)] w fun e w' => ∃ P c, e = .returned (.pointer (some ⟨P, 0, none⟩)) ∧ w'.heap[P]? = some (.cells c 65 (0, 0)) ∧ LaAt c B KC ⟨false, 0, nw0 (KC.bd 0 1), 5 + i, (-2), 0, none, 0⟩ ∧ w.heap.size ≤ P ∧ Below w.heap.size w w' := fun B w => by
            rw [IntWalk.i64_in (5 + (i : Int)) (by omega), show (5 : Int) + (i : Int) = ((5 + i : Nat) : Int) by omega]
            exact mkLay (f := 1) (ep := 0) (by omega) (by omega) rfl rfl B w
          have vw := i3.drew
          clear i3
          go_region_held3 (fun wq => (wq.cell? ⟨Wb, 0, none⟩ = some (.int .i64 40) ∧ wq.cell? ⟨Wb, 1, none⟩ = some (.int .i64 3) ∧ wq.cell? ⟨Wb, 2, none⟩ = some (.int .i64 1) ∧ wq.cell? ⟨Wb, 3, none⟩ = some (.int .i64 1) ∧ wq.cell? ⟨Wb, 4, none⟩ = some (.int .i64 9) ∧ wq.cell? ⟨Wb, 5, none⟩ = some (.int .i64 0)) ∧ wq.cell? ⟨Wb, 7, none⟩ = some (.pointer (some ⟨B, 0, none⟩))) (with_reducible exact hcf7 _ _ _ _ _ _ vw)
            ((go_at_call 16; with_reducible refine (cY _ _).mono ?_; rintro e w10 ⟨P2, cc, rfl, hP, hLa, hPl, bb⟩; have hne := vw.lw.new_ne hPl; replace vw := vw.below bb))
          have la := la_new (lo := lo) (Wb := Wb) (M := M) (G := G) hP hLa (by omega) (by omega) (by omega) hne
          have ly : VyOn (⟨false, 0, nw0 (KC.bd 0 1), 5 + i, (-2), 0, none, 0⟩ : La) g1 (5 + i) ch clk v 9 := .inl ⟨⟨hvi1.out, by omega, hval.out, rfl, rfl, rfl, rfl⟩, .inl ⟨rfl, rfl, Nat.le_refl _⟩⟩
          generalize (⟨false, 0, nw0 (KC.bd 0 1), 5 + i, (-2), 0, none, 0⟩ : La) = l0 at la ly
          clear hP hLa hPl bb hne cY hvi1 hval
          go_wp2
          go_loopw [9] (fun nn wr => ∃ (k : Nat) (l : La) (g : Gs), k ≤ 9 ∧ nn = .int .i64 k ∧ (0 ≤ g.T ∧ g.T ≤ 1 + 40 * i + k) ∧ Vw w wr lo Wb M G B base g u5 u4 vs ws ∧ LaIn wr lo Wb M G B P2 l ∧ VyOn l g (5 + i) ch clk v (9 - k)) (fun nn _ => 10 - (intOf nn).toNat)
          case atStart => exact ⟨0, l0, g1, by omega, rfl, by omega, vw, la, ly⟩
          case round =>
            clear vw la ly hT1
            obtain ⟨k, l, g2, hk, rfl, hT2, vw, la, ly⟩ := hrel
            have hkI : (k : Int) < 30 := by omega
            have x6 : wr.cell? ⟨Wb, 6, none⟩ = some (.pointer (some ⟨M, 0, none⟩)) := vw.lw.cellW rfl
            obtain ⟨bd, hm, c17⟩ := lay_vi2 vw la (by omega) ly
            cases bd
            · have hk1 := hm rfl
              go_wp2_with (go_at_call 17; with_reducible refine c17.mono ?_; rintro e w11 ⟨rfl, l', g', vw', la', hT', _, ly'⟩)
              go_roundw
              case rel => exact ⟨k + 1, l', g', by omega, by go_num, by omega, vw', la', by rw [show 9 - (k + 1) = 9 - k - 1 by omega]; first | exact ly' rfl | exact ly' trivial⟩
              case measure => simp [intOf]; omega
            · go_upto_region 19 with (go_at_call 17; with_reducible refine c17.mono ?_; rintro e w11 ⟨rfl, l', g', vw', la', hT', le, _⟩)
              have hvi : Vi g' (5 + i + 1) (⟨5 + i, clk, v⟩ :: ch) clk := by first | exact le rfl | exact le trivial
              clear le la' vw la ly x6 c17
              have vw := vw'
              clear vw'
              have q1 := qz _ _ _ _ _ _ vw
              have h3q : (Z i % 3 == 1) = true := by simpa using h3
              go_wp2
              go_roundw
              case rel => exact ⟨i + 1, ⟨5 + i, clk, v⟩ :: ch, clk, g', vs, ws, by omega, by go_num, rfl, by show -1 ≤ v ∧ v < 100; omega, by simp; omega, by rw [show 5 + (i + 1) = 5 + i + 1 by omega]; exact hvi, by omega, by omega, hwas.lay _ _, by omega, vw⟩
              case measure => simp [intOf]; omega
        · have h3p : (0 : Int) < Z i % 3 := by omega
          obtain ⟨v, hv⟩ : ∃ v, sl (Z i / 3 % 5 - 1) = v := ⟨_, rfl⟩
          have hvb : 0 ≤ v + 1 ∧ v + 1 < 10 := by rw [← hv]; unfold sl; split <;> omega
          have cV := slot_any (Z i / 3 % 5 - 1) (by omega)
          rw [hv] at cV
          replace hv : Hid (sl (Z i / 3 % 5 - 1) = v) := hv
          clear htv htop
          go_upto_region 14 with (go_at_call 13; with_reducible refine (cV _).mono ?_; rintro e w6 ⟨rfl, rfl⟩)
          have hn40 : 5 + i < 40 := by omega
          have cA2 : ∀ w, Calls Tryd.prog 15 #[.agg #[.int .i64 40, .int .i64 3, .int .i64 1, .int .i64 1, .int .i64 9, .int .i64 0], .string ⟨#[98, 111, 100, 121]⟩, .int .i64 (IntKind.i64.wrap (5 + (i : Int))), .int .i64 0] w fun e w' => e = .returned (.int .i64 (KC.bd (5 + i) 0 : Nat)) ∧ Below w.heap.size w w' := fun w => by
            rw [IntWalk.i64_in (5 + (i : Int)) (by omega), show (5 : Int) + (i : Int) = ((5 + i : Nat) : Int) by omega]
            exact at_body hn40 (i := 0) (by omega) w
          have hbN : KC.bd (5 + i) 0 < KC.N := by rw [KC_bd, KC_N]; omega
          obtain ⟨pl, hpl⟩ : ∃ pl, KC.bd (5 + i) 0 = pl := ⟨_, rfl⟩
          rw [hpl] at cA2 hbN
          replace hpl : Hid (KC.bd (5 + i) 0 = pl) := hpl
          have cL : ∀ wr vi wa vs ws, Vw w wr lo Wb M G B base g vi wa vs ws → Calls Tryd.prog 14 #[.pointer (some ⟨M, 0, none⟩), .int .i64 (pl : Nat), .int .u64 (IntKind.u64.wrap (IntKind.i64.wrap (v + 1)))] wr fun e w' => e = .returned (.pointer (some ⟨M, 0, none⟩)) ∧ Vw w w' lo Wb M G B base { g with X := g.X.set pl (v + 1).toNat, T := g.T + 1 } vi wa vs ws := fun wr vi wa vs ws x => by
            rw [IntWalk.i64_in (v + 1) (by omega), IntWalk.u64_in (v + 1) (by omega), show v + 1 = (((v + 1).toNat : Nat) : Int) by omega]
            exact (laid_any x.lw.gw hbN (by omega) (by omega)).mono fun _ _ ⟨h1, h2, h3⟩ => ⟨h1, x.only h2 h3⟩
          replace vw := vw.drew
          have fW6 := vw.lw.freeW 6
          clear q1
          go_region_held3 (fun wq => (wq.cell? ⟨Wb, 0, none⟩ = some (.int .i64 40) ∧ wq.cell? ⟨Wb, 1, none⟩ = some (.int .i64 3) ∧ wq.cell? ⟨Wb, 2, none⟩ = some (.int .i64 1) ∧ wq.cell? ⟨Wb, 3, none⟩ = some (.int .i64 1) ∧ wq.cell? ⟨Wb, 4, none⟩ = some (.int .i64 9) ∧ wq.cell? ⟨Wb, 5, none⟩ = some (.int .i64 0)) ∧ wq.cell? ⟨Wb, 6, none⟩ = some (.pointer (some ⟨M, 0, none⟩))) (first | with_reducible exact hcf6 _ _ _ _ _ _ i3 | with_reducible exact hcf6 _ _ _ _ _ _ i2 | with_reducible exact hcf6 _ _ _ _ _ _ vw)
            (first
              | (go_at_call 15; with_reducible refine (cA2 _).mono ?_; rintro e w7 ⟨rfl, hbb⟩; replace vw := vw.below hbb; clear hbb)
              | (go_at_call 14; with_reducible refine (cL _ _ _ _ _ vw).mono ?_; rintro e w8 ⟨rfl, i2⟩; have i3 := i2.setM; have fW6 := i2.lw.freeW 6))
          have hpo := hpl.out
          have hF : pl < g.X.length := by rw [hvi.len, ← hpo, KC_bd]; omega
          have hvi1 : Vi { g with X := g.X.set pl (v + 1).toNat, T := g.T + 1 } (5 + i) ch clk := hvi.store _ (by rw [← hpo, KC_bd]; omega) (by rw [← hpo, KC_bd, KC_bd]; omega) (fun s _ => by rw [← hpo, KC_bd, KC_bd]; omega) (fun s _ _ => ⟨by rw [← hpo, KC_bd, KC_bd]; omega, by rw [← hpo, KC_bd, KC_bd]; omega, by rw [← hpo, KC_bd, KC_bd]; omega⟩)
          have hval : nm KC (({ g with X := g.X.set pl (v + 1).toNat, T := g.T + 1 } : Gs).X.getD (KC.bd (5 + i) 0) 0) = v := by
            show nm KC ((g.X.set pl (v + 1).toNat).getD (KC.bd (5 + i) 0) 0) = v
            rw [hpo, getD_set_eq hF]
            unfold nm
            rw [if_pos (by show (v + 1).toNat ≤ 40; omega)]
            omega
          have hT1 : 0 ≤ ({ g with X := g.X.set pl (v + 1).toNat, T := g.T + 1 } : Gs).T ∧ ({ g with X := g.X.set pl (v + 1).toNat, T := g.T + 1 } : Gs).T ≤ 1 + 40 * i := by show 0 ≤ g.T + 1 ∧ g.T + 1 ≤ 1 + 40 * i; omega
          clear cL cA2 cV vw i2 fW6 hF hpo hvi hbN
          generalize ({ g with X := g.X.set pl (v + 1).toNat, T := g.T + 1 } : Gs) = g1 at *
          clear hT hpl
          generalize w8.setCell ⟨Wb, 6, none⟩ (.pointer (some ⟨M, 0, none⟩)) = w9 at *
          replace hvi1 : Hid _ := hvi1
          replace hval : Hid _ := hval
          go_upto_region 15 with fail
          have cY : ∀ B w, Calls Tryd.prog 16 #[.agg #[.int .i64 40, .int .i64 3, .int .i64 1, .int .i64 1, .int .i64 9, .int .i64 0], .int .i64 0, .int .i64 1, .int .i64 (IntKind.i64.wrap (5 + (i : Int))), .int .i64 (-2), .int .u64 0, .pointer (some ⟨B, 0, none⟩)] w fun e w' => ∃ P c, e = .returned (.pointer (some ⟨P, 0, none⟩)) ∧ w'.heap[P]? = some (.cells c 65 (0, 0)) ∧ LaAt c B KC ⟨false, 0, nw0 (KC.bd 0 1), 5 + i, (-2), 0, none, 0⟩ ∧ w.heap.size ≤ P ∧ Below w.heap.size w w' := fun B w => by
            rw [IntWalk.i64_in (5 + (i : Int)) (by omega), show (5 : Int) + (i : Int) = ((5 + i : Nat) : Int) by omega]
            exact mkLay (f := 1) (ep := 0) (by omega) (by omega) rfl rfl B w
          have vw := i3.drew
          clear i3
          go_region_held3 (fun wq => (wq.cell? ⟨Wb, 0, none⟩ = some (.int .i64 40) ∧ wq.cell? ⟨Wb, 1, none⟩ = some (.int .i64 3) ∧ wq.cell? ⟨Wb, 2, none⟩ = some (.int .i64 1) ∧ wq.cell? ⟨Wb, 3, none⟩ = some (.int .i64 1) ∧ wq.cell? ⟨Wb, 4, none⟩ = some (.int .i64 9) ∧ wq.cell? ⟨Wb, 5, none⟩ = some (.int .i64 0)) ∧ wq.cell? ⟨Wb, 7, none⟩ = some (.pointer (some ⟨B, 0, none⟩))) (with_reducible exact hcf7 _ _ _ _ _ _ vw)
            ((go_at_call 16; with_reducible refine (cY _ _).mono ?_; rintro e w10 ⟨P2, cc, rfl, hP, hLa, hPl, bb⟩; have hne := vw.lw.new_ne hPl; replace vw := vw.below bb))
          have la := la_new (lo := lo) (Wb := Wb) (M := M) (G := G) hP hLa (by omega) (by omega) (by omega) hne
          have ly : VyOn (⟨false, 0, nw0 (KC.bd 0 1), 5 + i, (-2), 0, none, 0⟩ : La) g1 (5 + i) ch clk v 9 := .inl ⟨⟨hvi1.out, by omega, hval.out, rfl, rfl, rfl, rfl⟩, .inl ⟨rfl, rfl, Nat.le_refl _⟩⟩
          generalize (⟨false, 0, nw0 (KC.bd 0 1), 5 + i, (-2), 0, none, 0⟩ : La) = l0 at la ly
          clear hP hLa hPl bb hne cY hvi1 hval
          go_wp2
          go_loopw [9] (fun nn wr => ∃ (k : Nat) (l : La) (g : Gs), k ≤ 9 ∧ nn = .int .i64 k ∧ (0 ≤ g.T ∧ g.T ≤ 1 + 40 * i + k) ∧ Vw w wr lo Wb M G B base g u5 u4 vs ws ∧ LaIn wr lo Wb M G B P2 l ∧ VyOn l g (5 + i) ch clk v (9 - k)) (fun nn _ => 10 - (intOf nn).toNat)
          case atStart => exact ⟨0, l0, g1, by omega, rfl, by omega, vw, la, ly⟩
          case round =>
            clear vw la ly hT1
            obtain ⟨k, l, g2, hk, rfl, hT2, vw, la, ly⟩ := hrel
            have hkI : (k : Int) < 30 := by omega
            have x6 : wr.cell? ⟨Wb, 6, none⟩ = some (.pointer (some ⟨M, 0, none⟩)) := vw.lw.cellW rfl
            obtain ⟨bd, hm, c17⟩ := lay_vi2 vw la (by omega) ly
            cases bd
            · have hk1 := hm rfl
              go_wp2_with (go_at_call 17; with_reducible refine c17.mono ?_; rintro e w11 ⟨rfl, l', g', vw', la', hT', _, ly'⟩)
              go_roundw
              case rel => exact ⟨k + 1, l', g', by omega, by go_num, by omega, vw', la', by rw [show 9 - (k + 1) = 9 - k - 1 by omega]; first | exact ly' rfl | exact ly' trivial⟩
              case measure => simp [intOf]; omega
            · go_upto_region 19 with (go_at_call 17; with_reducible refine c17.mono ?_; rintro e w11 ⟨rfl, l', g', vw', la', hT', le, _⟩)
              have hvi : Vi g' (5 + i + 1) (⟨5 + i, clk, v⟩ :: ch) clk := by first | exact le rfl | exact le trivial
              clear le la' vw la ly x6 c17
              have vw := vw'
              clear vw'
              have q1 := qz _ _ _ _ _ _ vw
              go_upto_region 20 with fail
              have vw := vw.drew
              clear q1
              go_region_held3 (fun wq => (wq.cell? ⟨Wb, 0, none⟩ = some (.int .i64 40) ∧ wq.cell? ⟨Wb, 1, none⟩ = some (.int .i64 3) ∧ wq.cell? ⟨Wb, 2, none⟩ = some (.int .i64 1) ∧ wq.cell? ⟨Wb, 3, none⟩ = some (.int .i64 1) ∧ wq.cell? ⟨Wb, 4, none⟩ = some (.int .i64 9) ∧ wq.cell? ⟨Wb, 5, none⟩ = some (.int .i64 0)) ∧ wq.cell? ⟨Wb, 7, none⟩ = some (.pointer (some ⟨B, 0, none⟩))) (with_reducible exact hcf7 _ _ _ _ _ _ vw)
                ((go_at_call 18; with_reducible refine (mkTurn _ _).mono ?_; rintro e w6 ⟨P3, cc, rfl, hP, hTu, hPl, bb⟩; have hne := vw.lw.new_ne hPl; replace vw := vw.below bb))
              have tu := tu_new (lo := lo) (Wb := Wb) (M := M) (G := G) hP hTu hne
              clear hP hTu hPl bb hne
              have c1 := turn_go vw tu hvi hck (by omega)
              have x6 : w6.cell? ⟨Wb, 6, none⟩ = some (.pointer (some ⟨M, 0, none⟩)) := vw.lw.cellW rfl
              go_upto_region 23 with (first
                | (go_at_call 19; with_reducible refine c1.mono ?_; rintro e w7 ⟨rfl, t1, g1, vw1, tu1, c2⟩; have x7 : w7.cell? ⟨Wb, 6, none⟩ = some (.pointer (some ⟨M, 0, none⟩)) := vw1.lw.cellW rfl)
                | (go_at_call 19; with_reducible refine (c2 _ vw1 tu1).mono ?_; rintro e w8 ⟨rfl, g2, vw2, hvi2, hT2, xv⟩))
              clear c1 c2 vw1 tu1 x7 x6 vw tu
              have h63 : vs.length + 1 ≤ maxLen := by unfold maxLen; omega
              have hby : (vs.length + 1) * 8 ≤ 140737488355328 := by omega
              have hwl := hwas.1
              have h63w : ws.length + 1 ≤ maxLen := by unfold maxLen; omega
              have hbyw : (ws.length + 1) * 8 ≤ 140737488355328 := by omega
              clear hwl
              go_wp2_with (first
                | (at_builtin; refine wpList_append_lies _ rfl _ _ _ rfl base 34 i34 _ 1 8 Tryd.underlying67 hi34 hz34 hy34 hx34 rfl (by decide) _ vs.length (vs.map fun x => .int .u64 (x : Nat)) rfl (vw2.ov.alloc _) ⟨w8.heap.size, 0, none⟩ 1 1 [.int .u64 (clk : Nat)] rfl rfl (World.news_of_block (cs := #[.int .u64 (clk : Nat)]) (t := 34) (fr := (0, 0)) (heap_alloc_new _ _)) (by simp [Value.oneCell']) (by omega) h63 hby (by have := vw2.hb; simp; omega) (w8.heap.size + 1) (by simp) ?_; intro r1 cap1 w9 hown1 hgrow1 _ _; have vw3 := vw2.pushV hgrow1 hown1)
                | (at_builtin; refine wpList_append_lies _ rfl _ _ _ rfl base 3 i3 _ 1 8 Tryd.underlying23 hi3 hz3 hy3 hx3 rfl (by decide) _ ws.length (ws.map fun x => .int .i64 x) rfl (vw3.ow.alloc _) ⟨w9.heap.size, 0, none⟩ 1 1 [.int .i64 v] rfl rfl (World.news_of_block (cs := #[.int .i64 v]) (t := 3) (fr := (0, 0)) (heap_alloc_new _ _)) (by simp [Value.oneCell']) (by omega) h63w hbyw (by have := vw3.hb; simp; omega) (w9.heap.size + 1) (by simp) ?_; intro r2 cap2 w10 hown2 hgrow2 _ _; have vw4 := vw3.pushW hgrow2 hown2))
              clear vw3 vw2 hown1 hgrow1 hown2 hgrow2
              go_roundw
              case rel => exact ⟨i + 1, ⟨5 + i, clk, v⟩ :: ch, clk + 1, g2, vs ++ [clk], ws ++ [v], by omega, by go_num, rfl, by show -1 ≤ v ∧ v < 100; omega, by simp; omega, by rw [show 5 + (i + 1) = 5 + i + 1 by omega]; exact hvi2, by omega, by simp; omega, (hwas.lay (5 + i) v).turn fun c hc => (hvi.lt c hc).2, by omega, vw4⟩
              case measure => simp [intOf]; omega
      · have hiI : ¬ (i : Int) < (len : Int) := by omega
        obtain ⟨adv, capv, hfv⟩ := own_form vw.ov
        obtain ⟨adw, capw, hfw⟩ := own_form vw.ow
        subst hfv hfw
        have hwl : Hid (vs.length = ws.length) := hwas.1
        have hvl30 : vs.length ≤ 30 := by omega
        have hch : 2 * ch.length + 3 ≤ 63 := by omega
        clear htv htop
        go_wp2
        go_loopw [11] (fun ii wr => ∃ g, (ii = .int .i64 (-1) ∧ g.T ≤ 100000 ∨ ∃ j : Nat, j < vs.length ∧ ii = .int .i64 (j : Nat) ∧ g.T ≤ 100000 - 200 * ((j : Int) + 1)) ∧ 0 ≤ g.T ∧ Vi g (5 + i) ch clk ∧ Vw w wr lo Wb M G B base g (.slice adv vs.length capv) (.slice adw ws.length capw) vs ws) (fun ii _ => (intOf ii + 1).toNat)
        case atStart =>
          refine ⟨g, ?_, by omega, hvi, vw⟩
          by_cases h0 : vs.length = 0
          · refine .inl ⟨?_, by omega⟩
            rw [h0]; go_num
          · exact .inr ⟨vs.length - 1, by omega, by go_num, by omega⟩
        case round =>
          clear vw hvi hT
          obtain ⟨g3, hcase, hT3, hvi, vw⟩ := hrel
          rcases hcase with ⟨rfl, hTb⟩ | ⟨j, hj, rfl, hTb⟩
          · go_wp2_with (go_at_call 7; refine (cA _ vw.lw.bel).mono ?_; rintro e w20 ⟨rfl, b20⟩)
            go_ret
            exact ⟨rfl, seq_below vw.lw.bel b20⟩
          · obtain ⟨rv, rfl, -⟩ := own_at vw.ov hj
            obtain ⟨rx, rfl, -⟩ := own_at vw.ow (j := j) (by have := hwl.out; omega)
            obtain ⟨V, hV⟩ : ∃ V, vs.getD j 0 = V := ⟨_, rfl⟩
            obtain ⟨z, hz⟩ : ∃ z, ws.getD j 0 = z := ⟨_, rfl⟩
            have hlook : look V ch = z := by rw [← hV, ← hz]; exact (hwas.2 j hj).2
            have cv : ∀ wr g, Vw w wr lo Wb M G B base g (.slice (some ⟨rv, 0, none⟩) vs.length capv) (.slice (some ⟨rx, 0, none⟩) ws.length capw) vs ws → wr.cell? ⟨rv, j, none⟩ = some (.int .u64 (V : Nat)) := fun wr g x => by
              obtain ⟨r, e, hc⟩ := own_at x.ov hj
              cases e
              refine hc _ ?_
              rw [← hV]
              simp [List.getD_eq_getElem?_getD, hj]
            have cw : ∀ wr g, Vw w wr lo Wb M G B base g (.slice (some ⟨rv, 0, none⟩) vs.length capv) (.slice (some ⟨rx, 0, none⟩) ws.length capw) vs ws → wr.cell? ⟨rx, j, none⟩ = some (.int .i64 z) := fun wr g x => by
              obtain ⟨r, e, hc⟩ := own_at x.ow (j := j) (by have := hwl.out; omega)
              cases e
              refine hc _ ?_
              rw [← hz]
              simp [List.getD_eq_getElem?_getD, show j < ws.length by have := hwl.out; omega]
            have hcf8 : ∀ wr g, Vw w wr lo Wb M G B base g (.slice (some ⟨rv, 0, none⟩) vs.length capv) (.slice (some ⟨rx, 0, none⟩) ws.length capw) vs ws → ((wr.cell? ⟨Wb, 0, none⟩ = some (.int .i64 40) ∧ wr.cell? ⟨Wb, 1, none⟩ = some (.int .i64 3) ∧ wr.cell? ⟨Wb, 2, none⟩ = some (.int .i64 1) ∧ wr.cell? ⟨Wb, 3, none⟩ = some (.int .i64 1) ∧ wr.cell? ⟨Wb, 4, none⟩ = some (.int .i64 9) ∧ wr.cell? ⟨Wb, 5, none⟩ = some (.int .i64 0)) ∧ wr.cell? ⟨Wb, 7, none⟩ = some (.pointer (some ⟨B, 0, none⟩))) ∧ wr.cell? ⟨rv, j, none⟩ = some (.int .u64 (V : Nat)) := fun wr g x => ⟨x.lw.cf, cv wr g x⟩
            replace hV : Hid (vs.getD j 0 = V) := hV
            replace hz : Hid (ws.getD j 0 = z) := hz
            have hjw : j < ws.length := by have := hwl.out; omega
            have hjI : (j : Int) < (vs.length : Int) := by omega
            have hjwI : (j : Int) < (ws.length : Int) := by omega
            have hso : SeOn ⟨-1, nw0 (KC.bd 0 1), V, 0⟩ g3 z 63 := ⟨rfl, .inl ⟨rfl, rfl, rfl, ch, hvi.old, hlook, hch⟩⟩
            have cS := fun (B : Nat) (w : World) => mkSee (f := 1) (v := V) (fz := 1) (by omega) rfl B w
            go_upto_region 28 with fail
            have vw := vw.drew
            go_region_held3 (fun wq => ((wq.cell? ⟨Wb, 0, none⟩ = some (.int .i64 40) ∧ wq.cell? ⟨Wb, 1, none⟩ = some (.int .i64 3) ∧ wq.cell? ⟨Wb, 2, none⟩ = some (.int .i64 1) ∧ wq.cell? ⟨Wb, 3, none⟩ = some (.int .i64 1) ∧ wq.cell? ⟨Wb, 4, none⟩ = some (.int .i64 9) ∧ wq.cell? ⟨Wb, 5, none⟩ = some (.int .i64 0)) ∧ wq.cell? ⟨Wb, 7, none⟩ = some (.pointer (some ⟨B, 0, none⟩))) ∧ wq.cell? ⟨rv, j, none⟩ = some (.int .u64 (V : Nat))) (with_reducible exact hcf8 _ _ vw)
              ((go_at_call 20; with_reducible refine (cS _ _).mono ?_; rintro e w12 ⟨P4, cc, rfl, hP, hSe, hPl, bb⟩; have hne := vw.lw.new_ne hPl; replace vw := vw.below bb))
            have se := se_new (lo := lo) (Wb := Wb) (M := M) (G := G) hP hSe hne
            generalize (⟨-1, nw0 (KC.bd 0 1), V, 0⟩ : Se) = s0 at se hso
            clear hP hSe hPl bb hne cS hcf8
            go_wp2
            go_loopw [13] (fun nn wr => ∃ (k : Nat) (s : Se) (g : Gs), k ≤ 63 ∧ nn = .int .i64 k ∧ g.T = g3.T + k ∧ g.X = g3.X ∧ Vi g (5 + i) ch clk ∧ Vw w wr lo Wb M G B base g (.slice (some ⟨rv, 0, none⟩) vs.length capv) (.slice (some ⟨rx, 0, none⟩) ws.length capw) vs ws ∧ SeIn wr lo Wb M G B P4 s ∧ SeOn s g z (63 - k)) (fun nn _ => 64 - (intOf nn).toNat)
            case atStart => exact ⟨0, s0, g3, by omega, rfl, by simp, rfl, hvi, vw, se, hso⟩
            case round =>
              clear vw se hso hvi
              obtain ⟨k, s, g4, hk, rfl, hT4, hX4, hvi, vw, se, so⟩ := hrel
              have hkI : (k : Int) < 100 := by omega
              have x6 : wr.cell? ⟨Wb, 6, none⟩ = some (.pointer (some ⟨M, 0, none⟩)) := vw.lw.cellW rfl
              obtain ⟨bd, hm, c21⟩ := see_go2 vw se (by omega) so
              replace hT4 : Hid (g4.T = g3.T + k) := hT4
              replace hX4 : Hid (g4.X = g3.X) := hX4
              cases bd
              · have hk1 := hm rfl
                go_wp2_with (go_at_call 21; with_reducible refine c21.mono ?_; rintro e w13 ⟨rfl, s', vw', se', _, so'⟩)
                go_roundw
                case rel => exact ⟨k + 1, s', { g4 with T := g4.T + 1 }, by omega, by go_num, by have := hT4.out; show g4.T + 1 = _; simp; omega, hX4.out, hvi.touch _, vw', se', by rw [show 63 - (k + 1) = 63 - k - 1 by omega]; first | exact so' rfl | exact so' trivial⟩
                case measure => simp [intOf]; omega
              · go_upto_region 32 with (go_at_call 21; with_reducible refine c21.mono ?_; rintro e w13 ⟨rfl, s', vw', se', he, _⟩)
                have he' : s'.pc = 4 ∧ s'.val = z := by first | exact he rfl | exact he trivial
                clear he c21 vw se so x6
                have hT5 : 0 ≤ ({ g4 with T := g4.T + 1 } : Gs).T ∧ ({ g4 with T := g4.T + 1 } : Gs).T ≤ g3.T + 64 := by have := hT4.out; show 0 ≤ g4.T + 1 ∧ g4.T + 1 ≤ g3.T + 64; omega
                have hvi5 : Vi { g4 with T := g4.T + 1 } (5 + i) ch clk := hvi.touch _
                generalize ({ g4 with T := g4.T + 1 } : Gs) = g5 at *
                have hcf9 : ∀ wr, Vw w wr lo Wb M G B base g5 (.slice (some ⟨rv, 0, none⟩) vs.length capv) (.slice (some ⟨rx, 0, none⟩) ws.length capw) vs ws → SeIn wr lo Wb M G B P4 s' → (wr.cell? ⟨Wb, 6, none⟩ = some (.pointer (some ⟨M, 0, none⟩)) ∧ wr.cell? ⟨P4, 0, none⟩ = some (.int .i64 z)) ∧ wr.cell? ⟨rx, j, none⟩ = some (.int .i64 z) := fun wr x y => ⟨⟨x.lw.cellW rfl, by have := y.val; rw [he'.2] at this; exact this⟩, cw _ _ x⟩
                have c21 : ∀ wr, Vw w wr lo Wb M G B base g5 (.slice (some ⟨rv, 0, none⟩) vs.length capv) (.slice (some ⟨rx, 0, none⟩) ws.length capw) vs ws → SeIn wr lo Wb M G B P4 s' → Calls Tryd.prog 21 #[.pointer (some ⟨P4, 0, none⟩), .pointer (some ⟨M, 0, none⟩)] wr fun e w' => e = .returned (.bool true) ∧ Vw w w' lo Wb M G B base g5 (.slice (some ⟨rv, 0, none⟩) vs.length capv) (.slice (some ⟨rx, 0, none⟩) ws.length capw) vs ws ∧ SeIn w' lo Wb M G B P4 s' := fun wr x y => see_end2 x y he'.1 (by omega)
                have vw := vw'.drew
                have se := se'.below (Below.refl _ _).drew
                clear vw' se' hvi hT4 hX4
                go_region_held3 (fun wq => (wq.cell? ⟨Wb, 6, none⟩ = some (.pointer (some ⟨M, 0, none⟩)) ∧ wq.cell? ⟨P4, 0, none⟩ = some (.int .i64 z)) ∧ wq.cell? ⟨rx, j, none⟩ = some (.int .i64 z)) (first | with_reducible exact hcf9 _ vw2 se2 | with_reducible exact hcf9 _ vw se)
                  ((go_at_call 21; with_reducible refine (c21 _ vw se).mono ?_; rintro e w14 ⟨rfl, vw2, se2⟩))
                go_wp2
                go_roundw
                case rel =>
                  refine ⟨g5, ?_, by omega, hvi5, vw2⟩
                  by_cases h0 : j = 0
                  · exact .inl ⟨by rw [h0]; go_num, by omega⟩
                  · exact .inr ⟨j - 1, by omega, by go_num, by omega⟩
                case measure => simp [intOf]
theorem views_row (ad : Option Addr) (len cap : Nat) (Z : Nat → Int) (w : World) (hw : WT w) (hZ : RdY w ad len Z) (hB : ∀ j, j < len → 0 ≤ Z j ∧ Z j ≤ 255) : Calls Tryd.prog 5 #[.slice ad len cap] w fun e w' => e = .returned (.bool true) ∧ Below w.heap.size w w' := views_law ad len cap Z hZ hB hw
end Go.Proofs.YtnegdabcjnhpdaaDoor
