/- What is known within the law that plays acts on a table: no walk in sight. -/
import Derived.Test.YtnegdabcjnhpdaaRSame
import Derived.Test.YtnegdabcjnhpdaaRFresh
namespace Go.Proofs.Ytnegdabcjnhpdaa
open Go.ChangeShapes Go.WideShapes Go.ChangeAt Go.RowKit Go.Deep
open Mm (Only wordsOf)

/-! Acts that came in. -/
structure Ac where
  k : Int
  n : Int
  r : Nat
def RdA (w : World) (ad : Option Addr) (n : Nat) (Z : Nat → Ac) : Prop := ∀ i, i < n → ∃ b off, ad = some ⟨b, off, none⟩ ∧ b < w.heap.size ∧ w.cell? ⟨b, off + i * 3, none⟩ = some (.int .i64 (Z i).k) ∧ w.cell? ⟨b, off + i * 3 + 1, none⟩ = some (.int .i64 (Z i).n) ∧ w.cell? ⟨b, off + i * 3 + 2, none⟩ = some (.int .u64 ((Z i).r : Nat)) ∧ (Z i).r < 18446744073709551616
theorem cellsU : Try.prog.cellsOf 24 = 1 := by kernel_rfl
theorem cellsA : Try.prog.cellsOf 33 = 3 := by kernel_rfl
theorem open_acts {H : Type} {enc : TypeId × Value → H} {w : World} {ad : Option Addr} {len cap fuel : Nat} {x : DataW H × List MemPlace}
    (h : DataW.trod enc Try.prog w 0 (fun _ => true) true fuel 25 (Value.slice ad len cap).cells.toList = some x) : ∃ Z : Nat → Ac, RdA w ad len Z ∧ len ≤ maxLen := by
  rcases open_slice Try.underlying25 h with ⟨hcs, _⟩ | ⟨a, l, c, m, n, D, Pl, hcs, _, hl, hml, hmm, _, hx⟩
  · simp [Value.cells] at hcs
    obtain ⟨rfl, rfl, rfl⟩ := hcs
    exact ⟨fun _ => ⟨0, 0, 0⟩, fun i hi => by omega, Nat.zero_le _⟩
  · simp [Value.cells] at hcs
    obtain ⟨rfl, rfl, rfl⟩ := hcs
    rcases Nat.eq_zero_or_pos len with h0 | h0
    · exact ⟨fun _ => ⟨0, 0, 0⟩, fun i hi => by omega, by omega⟩
    have hlm : len ≤ m := by rw [hmm]; simpa using hl
    have each : ∀ i, i < len → ∃ q : Ac, (w.cell? (a.add (i * 3)) = some (.int .i64 q.k) ∧ w.cell? (a.add (i * 3 + 1)) = some (.int .i64 q.n) ∧ w.cell? (a.add (i * 3 + 2)) = some (.int .u64 (q.r : Nat))) ∧ q.r < 18446744073709551616 := by
      intro i hi
      obtain ⟨cs', h1, h2⟩ := hx i (by omega)
      rw [cellsA] at h1
      obtain ⟨_, hlen, hcell⟩ := World.cells?_some h1
      obtain ⟨xs, k, hk, hxy, _, hxl, hf⟩ := DataW.trod_struct Try.underlying33 h2
      match xs, hxl, cs', hlen with
      | [y0, y1, y2], _, [v0, v1, v2], _ =>
        have g0 := hf 0 _ rfl
        have g1 := hf 1 _ rfl
        have g2 := hf 2 _ rfl
        simp [cellsI, cellsU] at g0 g1 g2
        obtain ⟨z0, f0, _, _⟩ := DataW.trod_int Try.underlying3 g0
        obtain ⟨z1, f1, _, _⟩ := DataW.trod_int Try.underlying3 g1
        obtain ⟨z2, f2, _, w2⟩ := DataW.trod_int Try.underlying24 g2
        simp at f0 f1 f2
        subst f0 f1 f2
        obtain ⟨r, rfl, hr⟩ := Tg.u64_nat w2
        have e0 := hcell 0 (by omega)
        have e1 := hcell 1 (by omega)
        have e2 := hcell 2 (by omega)
        rw [Go.Deep.add_add] at e0 e1 e2
        exact ⟨⟨z0, z1, r⟩, ⟨by simpa using e0, by simpa using e1, by simpa using e2⟩, hr⟩
    obtain ⟨q, hq⟩ := choose_lt' h0 each
    obtain ⟨b, off, spot⟩ := a
    have hspot : spot = none := by simpa [Addr.add] using World.cell?_spot (hq 0 (by omega)).1.1
    subst hspot
    refine ⟨q, fun i hi => ?_, by unfold maxLen at hml ⊢; omega⟩
    obtain ⟨⟨q0, q1, q2⟩, q3⟩ := hq i hi
    rw [add_none] at q0 q1 q2
    exact ⟨b, off, rfl, lt_of_cell q0, by simpa [Nat.add_assoc] using q0, by simpa [Nat.add_assoc] using q1, by simpa [Nat.add_assoc] using q2, q3⟩

/-! The rows' words, stored. -/
theorem map_set_fst (B : List En) (i : Nat) (v : Nat) : ((B.set i (v, (B.getD i (0, 0)).2)).map fun x => Value.int .i64 x.2) = B.map fun x => Value.int .i64 x.2 := by
  apply List.ext_getElem
  · simp
  · intro j h1 h2
    simp only [List.getElem_map, List.getElem_set]
    split
    · rename_i e; subst e; simp at h2; simp [h2]
    · rfl
theorem map_set_snd (B : List En) (i : Nat) (v : Int) : ((B.set i ((B.getD i (0, 0)).1, v)).map fun x => Value.int .u64 (x.1 : Nat)) = B.map fun x => Value.int .u64 (x.1 : Nat) := by
  apply List.ext_getElem
  · simp
  · intro j h1 h2
    simp only [List.getElem_map, List.getElem_set]
    split
    · rename_i e; subst e; simp at h2; simp [h2]
    · rfl
theorem Rw.setT {w : World} {G F : Nat} {B : List En} (h : Rw w G F B) (hne : G ≠ F) (i v : Nat) {vi : Int} (hv : ((v : Nat) : Int) = vi) : Rw (w.setCell ⟨G, i, none⟩ (.int .u64 vi)) G F (B.set i (v, (B.getD i (0, 0)).2)) := by
  subst hv
  refine ⟨?_, ?_⟩
  · rw [Mm.heap_setCell_at h.tg]
    simp [enTs, List.map_set]
  · rw [block_stored _ (lt_of_block h.sl) (Ne.symm hne), h.sl, enSs, enSs, map_set_fst]
theorem Rw.setS {w : World} {G F : Nat} {B : List En} (h : Rw w G F B) (hne : G ≠ F) (i : Nat) (v : Int) : Rw (w.setCell ⟨F, i, none⟩ (.int .i64 v)) G F (B.set i ((B.getD i (0, 0)).1, v)) := by
  refine ⟨?_, ?_⟩
  · rw [block_stored _ (lt_of_block h.tg) hne, h.tg, enTs, enTs, map_set_snd]
  · rw [Mm.heap_setCell_at h.sl]
    simp [enSs, List.map_set]

/-- What is known of the world within the law: the table has the entries A, the rows tell B, T was told. -/
structure Py (w wr : World) (t : Tb) (P R G F base : Nat) (B : List En) (v : Value) (T : List Nat) : Prop where
  ow : Ow w wr t.s t.a t.c t.d t.g t.k P R t
  rw : Rw wr G F B
  own : wr.ownsRow base 24 1 v T.length (uvals T)
  hb : P < base ∧ R < base ∧ G < base ∧ F < base ∧ base ≤ wr.heap.size
  ne : G ≠ F ∧ G ≠ R ∧ F ≠ R ∧ G ≠ P ∧ F ≠ P ∧ w.heap.size < G ∧ w.heap.size < F
  lt : ∀ x ∈ T, x < 18446744073709551616
theorem Py.below {w wr w' : World} {t : Tb} {P R G F base : Nat} {B : List En} {v : Value} {T : List Nat} (h : Py w wr t P R G F base B v T) (b : Below wr.heap.size wr w') : Py w w' t P R G F base B v T :=
  ⟨h.ow.below b, h.rw.below b, own_below h.own b, by have := h.hb; have := b.size; omega, h.ne, h.lt⟩
theorem Py.chg {w wr w' : World} {t : Tb} {P R G F base : Nat} {B : List En} {v : Value} {T : List Nat} (h : Py w wr t P R G F base B v T) (x : Chg [R] wr w') {A : List En} (ht : IsTab w' P R { t with A := A }) : Py w w' { t with A := A } P R G F base B v T :=
  ⟨h.ow.chg x ht, h.rw.chg x (by have := h.ne; simp; omega) (by have := h.ne; simp; omega), own_chg h.own x (by have := h.hb; simp; omega), by have := h.hb; have := x.size; omega, h.ne, h.lt⟩
theorem Py.row {w wr w' : World} {t : Tb} {P R G F base : Nat} {B B' : List En} {v : Value} {T : List Nat} (h : Py w wr t P R G F base B v T) (x : Chg [G, F] wr w') (hr : Rw w' G F B') : Py w w' t P R G F base B' v T := by
  have hn := h.ne
  have hb := h.hb
  have hP := h.ow.hP
  have hR := h.ow.hR
  exact ⟨⟨h.ow.cfg.chg x (by simp; omega), h.ow.tab.chg x (by simp; omega) (by simp; omega), x.below h.ow.bel (by simp; omega) (Nat.le_refl _), hP, hR⟩, hr, own_chg h.own x (by simp; omega), by have := x.size; omega, h.ne, h.lt⟩
theorem Py.setT {w wr : World} {t : Tb} {P R G F base : Nat} {B : List En} {v : Value} {T : List Nat} (h : Py w wr t P R G F base B v T) (i x : Nat) {xi : Int} (hx : ((x : Nat) : Int) = xi) : Py w (wr.setCell ⟨G, i, none⟩ (.int .u64 xi)) t P R G F base (B.set i (x, (B.getD i (0, 0)).2)) v T :=
  h.row ((Chg.refl [G, F] wr).setCell (by simp) _) (h.rw.setT h.ne.1 i x hx)
theorem Py.setS {w wr : World} {t : Tb} {P R G F base : Nat} {B : List En} {v : Value} {T : List Nat} (h : Py w wr t P R G F base B v T) (i : Nat) (x : Int) : Py w (wr.setCell ⟨F, i, none⟩ (.int .i64 x)) t P R G F base (B.set i ((B.getD i (0, 0)).1, x)) v T :=
  h.row ((Chg.refl [G, F] wr).setCell (by simp) _) (h.rw.setS h.ne.1 i x)
theorem Py.push {w wr w' : World} {t : Tb} {P R G F base : Nat} {B : List En} {v : Value} {T : List Nat} (h : Py w wr t P R G F base B v T) {x gg cap : Nat} (hx : x < 18446744073709551616) (hown : w'.ownsRow base 24 1 (.slice (some ⟨gg, 0, none⟩) (T.length + 1) cap) (T.length + 1) (uvals T ++ [.int .u64 (x : Nat)])) (hg : wr.grownBy w' v.ownBlock) :
    Py w w' t P R G F base B (.slice (some ⟨gg, 0, none⟩) (T.length + 1) cap) (T ++ [x]) := by
  have ch := chg_grown hg
  have hb := h.hb
  have hn := h.ne
  have hrow : ∀ x, x ∈ v.ownBlock.toList → base ≤ x := fun x hx => (h.own.lt x (by simpa using hx)).1
  have hlow : ∀ x, x < base → x ∉ v.ownBlock.toList := fun x hx hm => by have := hrow x hm; omega
  refine ⟨⟨h.ow.cfg.chg ch (hlow _ (by omega)), h.ow.tab.chg ch (hlow _ (by omega)) (hlow _ (by omega)), ch.below h.ow.bel (fun x hx => by have := hrow x hx; omega) (Nat.le_refl _), h.ow.hP, h.ow.hR⟩, h.rw.chg ch (hlow _ (by omega)) (hlow _ (by omega)), ?_, by have := ch.size; omega, h.ne, ?_⟩
  · rw [uvals_push] at hown
    simpa using hown
  · intro y hy
    rw [List.mem_append, List.mem_singleton] at hy
    rcases hy with hy | rfl
    · exact h.lt y hy
    · exact hx
theorem Py.len {w wr : World} {t : Tb} {P R G F base : Nat} {B : List En} {v : Value} {T : List Nat} (h : Py w wr t P R G F base B v T) {n : Nat} (hd : t.d = (n : Int)) : t.A.length = n := by have := h.ow.tab.ok.len; omega

/-- What the law's own search comes to. -/
def mtE (t : Tb) (X : Nat) (j : Nat) : Prop := Tg.hOk t.who (j : Int) (t.A.getD j (0, 0)).1 = true ∧ Tg.hW t.who (j : Int) (t.A.getD j (0, 0)).1 = X ∧ (t.A.getD j (0, 0)).2 ≠ -1
theorem mtE_fd {t : Tb} (ht : t.Ok) {X j : Nat} (hj : j < t.A.length) (h : mtE t X j) : fdOk t X = true ∧ fdI t X = (j : Int) ∧ fdS t X = (t.A.getD j (0, 0)).2 := by
  obtain ⟨h1, h2, h3⟩ := h
  have a1 := (Tg.hOk_iff.1 h1).2.2.1
  have := fd_of ht hj a1 h3
  rw [h2] at this
  exact this
theorem fd_mtE {t : Tb} {X : Nat} (h : fdOk t X = true) : ∃ j, j < t.A.length ∧ mtE t X j := by
  obtain ⟨i, hi, h1, h2, h3, h4⟩ := fd_is h
  refine ⟨i, hi, ?_, h2.symm, h1⟩
  unfold fdOk at h
  simp only [Bool.and_eq_true, decide_eq_true_eq] at h
  obtain ⟨hb, _⟩ := (Tg.pOk_back X).1 h.1.1.1.1
  cases hk : Tg.hOk t.who (i : Int) (t.A.getD i (0, 0)).1
  · have e := Tg.hW_no hk
    rw [e] at h2
    subst h2
    simp [Tg.pOk] at h
  · rfl
theorem set_same (A : List En) (i : Nat) (x : En) (h : i < A.length → A.getD i (0, 0) = x) : A.set i x = A := by
  apply List.ext_getElem
  · simp
  · intro j h1 h2
    rw [List.getElem_set]
    split
    · rename_i e; subst e; have := h h2; simp [List.getD, h2] at this; exact this.symm
    · rfl
end Go.Proofs.Ytnegdabcjnhpdaa
