/- Contracts of package field's newest: finding, loading, and the point. -/
import Derived.Test.YtnegdabcjnhpdaaGreatDoorGA
import Derived.Deep.QuietTactic
import Derived.BigQuiet
namespace Go.Proofs.YtnegdabcjnhpdaaGreatDoor
open Go.RowKit
open Mm (IsMem MS touched Only)
open Hh (WT)

/-- What finds a field's newest record: where the field stands, the word that was loaded and when, the record; what stamps that one, and whether it is at it. -/
structure Nw where
  field : Nat
  word : Nat
  since : Int
  rc : Int
  sb : Option Addr
  s : Sm
  on : Bool
structure NwAt (c : Array Value) (o B : Nat) (K : Cf) (n : Nw) : Prop where
  k0 : c[o]? = some (.int .i64 (K.S : Nat))
  k1 : c[o + 1]? = some (.int .i64 K.a)
  k2 : c[o + 2]? = some (.int .i64 (K.C : Nat))
  k3 : c[o + 3]? = some (.int .i64 (K.D : Nat))
  k4 : c[o + 4]? = some (.int .i64 K.g)
  k5 : c[o + 5]? = some (.int .i64 K.k)
  b : c[o + 6]? = some (.pointer (some ⟨B, 0, none⟩))
  field : c[o + 7]? = some (.int .i64 (n.field : Nat))
  word : c[o + 8]? = some (.int .u64 (n.word : Nat))
  since : c[o + 9]? = some (.int .i64 n.since)
  rc : c[o + 10]? = some (.int .i64 n.rc)
  sb : c[o + 11]? = some (.pointer n.sb)
  src : c[o + 12]? = some (.int .i64 n.s.rc)
  spl : c[o + 13]? = some (.int .i64 (n.s.place : Nat))
  spc : c[o + 14]? = some (.int .i64 n.s.pc)
  sck : c[o + 15]? = some (.int .u64 (n.s.clock : Nat))
  spt : c[o + 16]? = some (.int .i64 n.s.point)
  on : c[o + 17]? = some (.bool n.on)
structure Same (c c' : Array Value) (a b : Nat) : Prop where
  size : c'.size = c.size
  out : ∀ i, (i < a ∨ b < i) → c'[i]? = c[i]?
theorem Same.refl (c : Array Value) (a b : Nat) : Same c c a b := ⟨rfl, fun _ _ => rfl⟩
theorem Same.trans {c d e : Array Value} {a b : Nat} (h : Same c d a b) (k : Same d e a b) : Same c e a b := ⟨k.size.trans h.size, fun i hi => (k.out i hi).trans (h.out i hi)⟩
theorem Same.set (c : Array Value) {a b i : Nat} (v : Value) (h : a ≤ i ∧ i ≤ b) : Same c (c.setIfInBounds i v) a b := ⟨by simp, fun j hj => get_set_ne (by omega)⟩
theorem Same.smPut (c : Array Value) (o : Nat) (s : Sm) {a b : Nat} (h : a ≤ o + 3 ∧ o + 5 ≤ b) : Same c (smPut c o s) a b := ⟨by simp [Go.Proofs.YtnegdabcjnhpdaaGreatDoor.smPut], fun j hj => smPut_other (by omega)⟩
theorem NwAt.size {c : Array Value} {o B : Nat} {K : Cf} {n : Nw} (h : NwAt c o B K n) : o + 17 < c.size := (Array.getElem?_eq_some_iff.1 h.on).1
theorem NwAt.sm {c : Array Value} {o B : Nat} {K : Cf} {n : Nw} (h : NwAt c o B K n) (hb : n.sb = some ⟨B, 0, none⟩) : SmAt c (o + 11) B n.s := ⟨by rw [← hb]; exact h.sb, h.src, h.spl, h.spc, h.sck, h.spt⟩

structure Nw.Ok (n : Nw) (B N : Nat) : Prop where
  field : n.field < N
  since : -4611686018427387904 < n.since ∧ n.since < 4611686018427387904
  sm : n.on = true → n.sb = some ⟨B, 0, none⟩ ∧ n.s.Ok N
/-- A step on the way to the newest record. -/
def Nw.find (n : Nw) (K : Cf) (B : Nat) (g : Gs) : Nw × Gs :=
  if n.on = true then ({ n with s := (n.s.step g).1, on := !decide ((n.s.step g).1.pc = 3) }, (n.s.step g).2)
  else
    ({ n with
        word := g.X.getD n.field 0, since := g.k.now, rc := nm K (g.X.getD n.field 0),
        sb := if nm K (g.X.getD n.field 0) = -1 then n.sb else some ⟨B, 0, none⟩,
        s := if nm K (g.X.getD n.field 0) = -1 then n.s else ⟨nm K (g.X.getD n.field 0), K.bd (nm K (g.X.getD n.field 0)).toNat 1, 0, 0, 0⟩,
        on := !decide (nm K (g.X.getD n.field 0) = -1) }, { g with T := g.T + 1 })

theorem nm_b (K : Cf) (W : Nat) : -1 ≤ nm K W ∧ nm K W < (K.S : Int) ∨ K.S = 0 ∧ nm K W = -1 := by unfold nm; split <;> omega
theorem nm_nat {K : Cf} {W : Nat} (h : nm K W ≠ -1) : ∃ r : Nat, nm K W = (r : Int) ∧ r < K.S ∧ W = r + 1 := by
  unfold nm at h ⊢
  split
  · rename_i hW
    rw [if_pos hW] at h
    exact ⟨W - 1, by omega, by omega, by omega⟩
  · rename_i hW
    rw [if_neg hW] at h
    exact absurd rfl h

set_option maxHeartbeats 4000000 in
theorem loadField_any {w : World} {lo M G B P o : Nat} {g : Gs} {c : Array Value} {t : TypeId} {K : Cf} {n : Nw} (hK : K.Ok) (hB : 3 ≤ K.B) (is : InF w w lo M G B K.N g P c t) (hn : NwAt c o B K n) (hk : n.Ok B K.N) (hT : g.T + 1 < 4611686018427387904) (hon : n.on = false) :
    Calls Tryz.prog 83 #[.pointer (some ⟨P, o, none⟩), .pointer (some ⟨M, 0, none⟩)] w fun r w' => r = .returned (.tuple #[]) ∧ ∃ c', InF w w' lo M G B K.N (n.find K B g).2 P c' t ∧ NwAt c' o B K (n.find K B g).1 ∧ Same c c' (o + 8) (o + 17) := by
  have hz := hn.size
  have hl : n.field < g.X.length := by rw [is.gw.len]; exact hk.field
  have hlen := is.gw.len
  have htb := is.gw.tb
  obtain ⟨W, hW⟩ : ∃ W, g.X.getD n.field 0 = W := ⟨_, rfl⟩
  have hWl : W < 18446744073709551616 := by rw [← hW]; exact is.gw.mem.fits _
  have c0 := loadX is.gw.mem hl htb hW
  have cn := named_any hK W hWl
  have e : n.find K B g = ({ n with word := W, since := g.k.now, rc := nm K W, sb := if nm K W = -1 then n.sb else some ⟨B, 0, none⟩, s := if nm K W = -1 then n.s else ⟨nm K W, K.bd (nm K W).toNat 1, 0, 0, 0⟩, on := !decide (nm K W = -1) }, { g with T := g.T + 1 }) := by
    unfold Nw.find; rw [hon, hW]; rfl
  rw [e]
  clear e
  obtain ⟨n', hn'⟩ : ∃ n' : Nw, ({ n with word := W, since := g.k.now, rc := nm K W, sb := if nm K W = -1 then n.sb else some ⟨B, 0, none⟩, s := if nm K W = -1 then n.s else ⟨nm K W, K.bd (nm K W).toNat 1, 0, 0, 0⟩, on := !decide (nm K W = -1) } : Nw) = n' := ⟨_, rfl⟩
  have HN : Hid (({ n with word := W, since := g.k.now, rc := nm K W, sb := if nm K W = -1 then n.sb else some ⟨B, 0, none⟩, s := if nm K W = -1 then n.s else ⟨nm K W, K.bd (nm K W).toNat 1, 0, 0, 0⟩, on := !decide (nm K W = -1) } : Nw) = n') := hn'
  rw [hn']
  clear hn'
  have l7 := is.cell hn.field
  have l8 := is.cell hn.word
  have f8 := is.free (o + 8)
  go_enter Tryz.func83, Tryz.ntmps83
  go_upto_region 1 with (go_at_call 24; refine c0.mono ?_; rintro e w1 ⟨rfl, hm, ho⟩; replace is := is.only hm ho hlen (by omega) hT; clear l7 l8 f8; have l8 := is.cell hn.word; have f8 := is.free (o + 8))
  replace is := is.set (o + 8) (.int .u64 (W : Nat))
  clear l8 f8 hm ho c0
  generalize w1.setCell ⟨P, o + 8, none⟩ (.int .u64 (W : Nat)) = w2 at *
  have s1 : Same c (c.setIfInBounds (o + 8) (.int .u64 (W : Nat))) (o + 8) (o + 17) := Same.set c _ (by omega)
  have a8 : (c.setIfInBounds (o + 8) (.int .u64 (W : Nat)))[o + 8]? = some (.int .u64 (W : Nat)) := get_set (by omega)
  have g1 : ∀ i, i ≠ o + 8 → (c.setIfInBounds (o + 8) (.int .u64 (W : Nat)))[i]? = c[i]? := fun i hi => get_set_ne (Ne.symm hi)
  generalize c.setIfInBounds (o + 8) (.int .u64 (W : Nat)) = c1 at *
  have l6 := is.cell (i := o + 6) (by rw [g1 _ (by omega)]; exact hn.b)
  have l9 := is.cell (i := o + 9) (by rw [g1 _ (by omega)]; exact hn.since)
  have f9 := is.free (o + 9)
  obtain ⟨mb, mt, bk⟩ := is.gw.book
  have n0 := bk.cells.1
  simp only at n0
  go_upto_region 2 with fail
  replace is := is.set (o + 9) (.int .i64 g.k.now)
  clear l6 l9 f9 bk n0
  generalize w2.setCell ⟨P, o + 9, none⟩ (.int .i64 g.k.now) = w3 at *
  have s2 : Same c (c1.setIfInBounds (o + 9) (.int .i64 g.k.now)) (o + 8) (o + 17) := s1.trans (Same.set c1 _ (by omega))
  have a9 : (c1.setIfInBounds (o + 9) (.int .i64 g.k.now))[o + 9]? = some (.int .i64 g.k.now) := get_set (by have := s1.size; omega)
  have b8 : (c1.setIfInBounds (o + 9) (.int .i64 g.k.now))[o + 8]? = some (.int .u64 (W : Nat)) := by rw [get_set_ne (by omega)]; exact a8
  have g2 : ∀ i, i ≠ o + 8 → i ≠ o + 9 → (c1.setIfInBounds (o + 9) (.int .i64 g.k.now))[i]? = c[i]? := fun i h1 h2 => by rw [get_set_ne (Ne.symm h2), g1 i h1]
  clear g1 s1 a8
  generalize c1.setIfInBounds (o + 9) (.int .i64 g.k.now) = c2 at *
  have hcf : ∀ c', (∀ i, i < o + 8 → c'[i]? = c[i]?) → ∀ wr, InF w wr lo M G B K.N ⟨g.X, g.T + 1, g.k⟩ P c' t → wr.cell? ⟨P, o, none⟩ = some (.int .i64 (K.S : Nat)) ∧ wr.cell? ⟨P, o + 1, none⟩ = some (.int .i64 K.a) ∧ wr.cell? ⟨P, o + 2, none⟩ = some (.int .i64 (K.C : Nat)) ∧ wr.cell? ⟨P, o + 3, none⟩ = some (.int .i64 (K.D : Nat)) ∧ wr.cell? ⟨P, o + 4, none⟩ = some (.int .i64 K.g) ∧ wr.cell? ⟨P, o + 5, none⟩ = some (.int .i64 K.k) ∧ wr.cell? ⟨P, o + 6, none⟩ = some (.pointer (some ⟨B, 0, none⟩)) := fun c' h wr x =>
    ⟨x.cell (by rw [h _ (by omega)]; exact hn.k0), x.cell (by rw [h _ (by omega)]; exact hn.k1), x.cell (by rw [h _ (by omega)]; exact hn.k2), x.cell (by rw [h _ (by omega)]; exact hn.k3), x.cell (by rw [h _ (by omega)]; exact hn.k4), x.cell (by rw [h _ (by omega)]; exact hn.k5), x.cell (by rw [h _ (by omega)]; exact hn.b)⟩
  have hlow2 : ∀ i, i < o + 8 → c2[i]? = c[i]? := fun i hi => g2 i (by omega) (by omega)
  have h10 : c2[o + 10]? = some (.int .i64 n.rc) := by rw [g2 _ (by omega) (by omega)]; exact hn.rc
  obtain ⟨rz, hrz⟩ : ∃ rz, nm K W = rz := ⟨_, rfl⟩
  rw [hrz] at cn
  have hS2 : ∀ wr, InF w wr lo M G B K.N ⟨g.X, g.T + 1, g.k⟩ P c2 t → InF w (wr.setCell ⟨P, o + 10, none⟩ (.int .i64 rz)) lo M G B K.N ⟨g.X, g.T + 1, g.k⟩ P (c2.setIfInBounds (o + 10) (.int .i64 rz)) t := fun wr x => x.set _ _
  have hlow3 : ∀ i, i < o + 8 → (c2.setIfInBounds (o + 10) (.int .i64 rz))[i]? = c[i]? := fun i hi => by rw [get_set_ne (by omega)]; exact hlow2 i hi
  have b83 : (c2.setIfInBounds (o + 10) (.int .i64 rz))[o + 8]? = some (.int .u64 (W : Nat)) := by rw [get_set_ne (by omega)]; exact b8
  unfold Cf.cs at cn
  replace is := is.drew
  have l8 := is.cell b8
  have l10 := is.cell h10
  have f10 := is.free (o + 10)
  go_region_held (fun wr => (wr.cell? ⟨P, o, none⟩ = some (.int .i64 (K.S : Nat)) ∧ wr.cell? ⟨P, o + 1, none⟩ = some (.int .i64 K.a) ∧ wr.cell? ⟨P, o + 2, none⟩ = some (.int .i64 (K.C : Nat)) ∧ wr.cell? ⟨P, o + 3, none⟩ = some (.int .i64 (K.D : Nat)) ∧ wr.cell? ⟨P, o + 4, none⟩ = some (.int .i64 K.g) ∧ wr.cell? ⟨P, o + 5, none⟩ = some (.int .i64 K.k) ∧ wr.cell? ⟨P, o + 6, none⟩ = some (.pointer (some ⟨B, 0, none⟩))) ∧ wr.cell? ⟨P, o + 8, none⟩ = some (.int .u64 (W : Nat))) (first | (with_reducible exact ⟨hcf _ hlow2 _ is, is.cell b8⟩) | (with_reducible exact ⟨hcf _ hlow3 _ (hS2 _ is), (hS2 _ is).cell b83⟩)) (first
    | (go_at_call 71; with_reducible refine (cn _).mono ?_; rintro e w4 ⟨rfl, b⟩; replace is := is.below b; clear l8 l10 f10 b; have l10 := is.cell h10; have f10 := is.free (o + 10)))
  replace is := hS2 _ is
  rename_i hHeld
  clear hHeld l10 f10 hS2 cn
  try clear l8
  generalize w4.setCell ⟨P, o + 10, none⟩ (.int .i64 rz) = w5 at *
  have s3 : Same c (c2.setIfInBounds (o + 10) (.int .i64 rz)) (o + 8) (o + 17) := s2.trans (Same.set c2 _ (by omega))
  have a10 : (c2.setIfInBounds (o + 10) (.int .i64 rz))[o + 10]? = some (.int .i64 rz) := get_set (by have := s2.size; omega)
  have a93 : (c2.setIfInBounds (o + 10) (.int .i64 rz))[o + 9]? = some (.int .i64 g.k.now) := by rw [get_set_ne (by omega)]; exact a9
  have g3 : ∀ i, o + 11 ≤ i → (c2.setIfInBounds (o + 10) (.int .i64 rz))[i]? = c[i]? := fun i hi => by rw [get_set_ne (by omega), g2 i (by omega) (by omega)]
  clear hlow2 h10 s2 g2 b8 a9
  generalize c2.setIfInBounds (o + 10) (.int .i64 rz) = c3 at *
  have l10 := is.cell a10
  by_cases hr1 : rz = -1
  · have hcond : decide (nm K W = -1) = true := by rw [hrz, hr1]; rfl
    subst hr1
    go_wp2
    go_end0
    refine ⟨rfl, c3, is, ?_, s3⟩
    rw [← HN.out, if_pos hrz, if_pos hrz, hcond, hrz]
    exact ⟨by rw [hlow3 _ (by omega)]; exact hn.k0, by rw [hlow3 _ (by omega)]; exact hn.k1, by rw [hlow3 _ (by omega)]; exact hn.k2, by rw [hlow3 _ (by omega)]; exact hn.k3, by rw [hlow3 _ (by omega)]; exact hn.k4, by rw [hlow3 _ (by omega)]; exact hn.k5, by rw [hlow3 _ (by omega)]; exact hn.b, by rw [hlow3 _ (by omega)]; exact hn.field, b83, a93, a10, by rw [g3 _ (by omega)]; exact hn.sb, by rw [g3 _ (by omega)]; exact hn.src, by rw [g3 _ (by omega)]; exact hn.spl, by rw [g3 _ (by omega)]; exact hn.spc, by rw [g3 _ (by omega)]; exact hn.sck, by rw [g3 _ (by omega)]; exact hn.spt, by rw [g3 _ (by omega), hn.on, hon]; rfl⟩
  · obtain ⟨r, hr, hrS, _⟩ := nm_nat (K := K) (W := W) (by rw [hrz]; exact hr1)
    have hcond : decide (nm K W = -1) = false := decide_eq_false (by rw [hrz]; exact hr1)
    have hrz2 : (r : Int) = rz := by rw [← hr, hrz]
    have hnn : ¬ nm K W = -1 := by rw [hrz]; exact hr1
    have hto : (nm K W).toNat = r := by rw [hr]; rfl
    have cb := fun w => body_at hK hrS (i := 1) (by omega) hrz2 (u := 1) rfl w
    unfold Cf.cs at cb
    have cs := stampOf_as (some ⟨B, 0, none⟩) cb
    have hne : (rz == -1) = false := by simpa using hr1
    go_upto_region 4 with fail
    clear cb l10
    obtain ⟨pl, hpl⟩ : ∃ pl : Int, ((K.bd r 1 : Nat) : Int) = pl := ⟨_, rfl⟩
    rw [hpl] at cs
    have h6 : ∀ wr, InF w wr lo M G B K.N ⟨g.X, g.T + 1, g.k⟩ P c3 t → InF w ((((((wr.setCell ⟨P, o + 11, none⟩ (.pointer (some ⟨B, 0, none⟩))).setCell ⟨P, o + 12, none⟩ (.int .i64 rz)).setCell ⟨P, o + 13, none⟩ (.int .i64 pl)).setCell ⟨P, o + 14, none⟩ (.int .i64 0)).setCell ⟨P, o + 15, none⟩ (.int .u64 0)).setCell ⟨P, o + 16, none⟩ (.int .i64 0)) lo M G B K.N ⟨g.X, g.T + 1, g.k⟩ P ((((((c3.setIfInBounds (o + 11) (.pointer (some ⟨B, 0, none⟩))).setIfInBounds (o + 12) (.int .i64 rz)).setIfInBounds (o + 13) (.int .i64 pl)).setIfInBounds (o + 14) (.int .i64 0)).setIfInBounds (o + 15) (.int .u64 0)).setIfInBounds (o + 16) (.int .i64 0)) t := fun wr x => (((((x.set _ _).set _ _).set _ _).set _ _).set _ _).set _ _
    have s6 : Same c3 ((((((c3.setIfInBounds (o + 11) (.pointer (some ⟨B, 0, none⟩))).setIfInBounds (o + 12) (.int .i64 rz)).setIfInBounds (o + 13) (.int .i64 pl)).setIfInBounds (o + 14) (.int .i64 0)).setIfInBounds (o + 15) (.int .u64 0)).setIfInBounds (o + 16) (.int .i64 0)) (o + 11) (o + 16) := (((((Same.set c3 _ (by omega)).trans (Same.set _ _ (by omega))).trans (Same.set _ _ (by omega))).trans (Same.set _ _ (by omega))).trans (Same.set _ _ (by omega))).trans (Same.set _ _ (by omega))
    have hz3 : o + 17 < c3.size := by have := s3.size; omega
    have q11 : ((((((c3.setIfInBounds (o + 11) (.pointer (some ⟨B, 0, none⟩))).setIfInBounds (o + 12) (.int .i64 rz)).setIfInBounds (o + 13) (.int .i64 pl)).setIfInBounds (o + 14) (.int .i64 0)).setIfInBounds (o + 15) (.int .u64 0)).setIfInBounds (o + 16) (.int .i64 0))[o + 11]? = some (.pointer (some ⟨B, 0, none⟩)) := by
      rw [get_set_ne (by omega), get_set_ne (by omega), get_set_ne (by omega), get_set_ne (by omega), get_set_ne (by omega), get_set (by omega)]
    have q12 : ((((((c3.setIfInBounds (o + 11) (.pointer (some ⟨B, 0, none⟩))).setIfInBounds (o + 12) (.int .i64 rz)).setIfInBounds (o + 13) (.int .i64 pl)).setIfInBounds (o + 14) (.int .i64 0)).setIfInBounds (o + 15) (.int .u64 0)).setIfInBounds (o + 16) (.int .i64 0))[o + 12]? = some (.int .i64 rz) := by
      rw [get_set_ne (by omega), get_set_ne (by omega), get_set_ne (by omega), get_set_ne (by omega), get_set (by simp; omega)]
    have q13 : ((((((c3.setIfInBounds (o + 11) (.pointer (some ⟨B, 0, none⟩))).setIfInBounds (o + 12) (.int .i64 rz)).setIfInBounds (o + 13) (.int .i64 pl)).setIfInBounds (o + 14) (.int .i64 0)).setIfInBounds (o + 15) (.int .u64 0)).setIfInBounds (o + 16) (.int .i64 0))[o + 13]? = some (.int .i64 pl) := by
      rw [get_set_ne (by omega), get_set_ne (by omega), get_set_ne (by omega), get_set (by simp; omega)]
    have q14 : ((((((c3.setIfInBounds (o + 11) (.pointer (some ⟨B, 0, none⟩))).setIfInBounds (o + 12) (.int .i64 rz)).setIfInBounds (o + 13) (.int .i64 pl)).setIfInBounds (o + 14) (.int .i64 0)).setIfInBounds (o + 15) (.int .u64 0)).setIfInBounds (o + 16) (.int .i64 0))[o + 14]? = some (.int .i64 0) := by
      rw [get_set_ne (by omega), get_set_ne (by omega), get_set (by simp; omega)]
    have q15 : ((((((c3.setIfInBounds (o + 11) (.pointer (some ⟨B, 0, none⟩))).setIfInBounds (o + 12) (.int .i64 rz)).setIfInBounds (o + 13) (.int .i64 pl)).setIfInBounds (o + 14) (.int .i64 0)).setIfInBounds (o + 15) (.int .u64 0)).setIfInBounds (o + 16) (.int .i64 0))[o + 15]? = some (.int .u64 0) := by
      rw [get_set_ne (by omega), get_set (by simp; omega)]
    have q16 : ((((((c3.setIfInBounds (o + 11) (.pointer (some ⟨B, 0, none⟩))).setIfInBounds (o + 12) (.int .i64 rz)).setIfInBounds (o + 13) (.int .i64 pl)).setIfInBounds (o + 14) (.int .i64 0)).setIfInBounds (o + 15) (.int .u64 0)).setIfInBounds (o + 16) (.int .i64 0))[o + 16]? = some (.int .i64 0) := by
      rw [get_set (by simp; omega)]
    generalize (((((c3.setIfInBounds (o + 11) (.pointer (some ⟨B, 0, none⟩))).setIfInBounds (o + 12) (.int .i64 rz)).setIfInBounds (o + 13) (.int .i64 pl)).setIfInBounds (o + 14) (.int .i64 0)).setIfInBounds (o + 15) (.int .u64 0)).setIfInBounds (o + 16) (.int .i64 0) = c6 at *
    have hlow6 : ∀ i, i < o + 8 → c6[i]? = c[i]? := fun i hi => by rw [s6.out i (by omega)]; exact hlow3 i hi
    have a106 : c6[o + 10]? = some (.int .i64 rz) := by rw [s6.out _ (by omega)]; exact a10
    have k11 : ∀ wr, InF w wr lo M G B K.N ⟨g.X, g.T + 1, g.k⟩ P c3 t → (wr.cell? ⟨P, o + 11, none⟩ = some (.pointer n.sb) ∧ wr.cell? ⟨P, o + 12, none⟩ = some (.int .i64 n.s.rc) ∧ wr.cell? ⟨P, o + 13, none⟩ = some (.int .i64 (n.s.place : Nat)) ∧ wr.cell? ⟨P, o + 14, none⟩ = some (.int .i64 n.s.pc) ∧ wr.cell? ⟨P, o + 15, none⟩ = some (.int .u64 (n.s.clock : Nat)) ∧ wr.cell? ⟨P, o + 16, none⟩ = some (.int .i64 n.s.point)) := fun wr x => ⟨x.cell (by rw [g3 _ (by omega)]; exact hn.sb), x.cell (by rw [g3 _ (by omega)]; exact hn.src), x.cell (by rw [g3 _ (by omega)]; exact hn.spl), x.cell (by rw [g3 _ (by omega)]; exact hn.spc), x.cell (by rw [g3 _ (by omega)]; exact hn.sck), x.cell (by rw [g3 _ (by omega)]; exact hn.spt)⟩
    replace is := is.drew
    obtain ⟨l11, l12, l13, l14, l15, l16⟩ := k11 _ is
    have f11 := is.free (o + 11)
    have f12 := is.free (o + 12)
    have f13 := is.free (o + 13)
    have f14 := is.free (o + 14)
    have f15 := is.free (o + 15)
    have f16 := is.free (o + 16)
    go_region_held (fun wr => (wr.cell? ⟨P, o, none⟩ = some (.int .i64 (K.S : Nat)) ∧ wr.cell? ⟨P, o + 1, none⟩ = some (.int .i64 K.a) ∧ wr.cell? ⟨P, o + 2, none⟩ = some (.int .i64 (K.C : Nat)) ∧ wr.cell? ⟨P, o + 3, none⟩ = some (.int .i64 (K.D : Nat)) ∧ wr.cell? ⟨P, o + 4, none⟩ = some (.int .i64 K.g) ∧ wr.cell? ⟨P, o + 5, none⟩ = some (.int .i64 K.k) ∧ wr.cell? ⟨P, o + 6, none⟩ = some (.pointer (some ⟨B, 0, none⟩))) ∧ wr.cell? ⟨P, o + 10, none⟩ = some (.int .i64 rz)) (first | (with_reducible exact ⟨hcf _ hlow3 _ is, is.cell a10⟩) | (with_reducible exact ⟨hcf _ hlow6 _ (h6 _ is), (h6 _ is).cell a106⟩)) (first
      | (go_at_call 20; with_reducible refine (cs _).mono ?_; rintro e w7 ⟨rfl, b⟩; replace is := is.below b; clear l11 l12 l13 l14 l15 l16 f11 f12 f13 f14 f15 f16 b; obtain ⟨l11, l12, l13, l14, l15, l16⟩ := k11 _ is; have f11 := is.free (o + 11); have f12 := is.free (o + 12); have f13 := is.free (o + 13); have f14 := is.free (o + 14); have f15 := is.free (o + 15); have f16 := is.free (o + 16)))
    replace is := h6 _ is
    rename_i hHeld
    clear hHeld l11 l12 l13 l14 l15 l16 f11 f12 f13 f14 f15 f16 k11 h6 cs hcf
    generalize (((((w7.setCell ⟨P, o + 11, none⟩ (.pointer (some ⟨B, 0, none⟩))).setCell ⟨P, o + 12, none⟩ (.int .i64 rz)).setCell ⟨P, o + 13, none⟩ (.int .i64 pl)).setCell ⟨P, o + 14, none⟩ (.int .i64 0)).setCell ⟨P, o + 15, none⟩ (.int .u64 0)).setCell ⟨P, o + 16, none⟩ (.int .i64 0) = w8 at *
    have l17 := is.cell (i := o + 17) (by rw [s6.out _ (by omega), g3 _ (by omega)]; exact hn.on)
    have f17 := is.free (o + 17)
    have i9 := is.set (o + 17) (.bool true)
    go_wp2
    go_end0
    refine ⟨rfl, _, i9, ?_, (s3.trans ⟨s6.size, fun i hi => s6.out i (by omega)⟩).trans (Same.set c6 _ (by omega))⟩
    rw [← HN.out, if_neg hnn, if_neg hnn, hcond, hto, hrz]
    have gl : ∀ i, i ≠ o + 17 → (c6.setIfInBounds (o + 17) (.bool true))[i]? = c6[i]? := fun i hi => get_set_ne (Ne.symm hi)
    exact ⟨by rw [gl _ (by omega), hlow6 _ (by omega)]; exact hn.k0, by rw [gl _ (by omega), hlow6 _ (by omega)]; exact hn.k1, by rw [gl _ (by omega), hlow6 _ (by omega)]; exact hn.k2, by rw [gl _ (by omega), hlow6 _ (by omega)]; exact hn.k3, by rw [gl _ (by omega), hlow6 _ (by omega)]; exact hn.k4, by rw [gl _ (by omega), hlow6 _ (by omega)]; exact hn.k5, by rw [gl _ (by omega), hlow6 _ (by omega)]; exact hn.b, by rw [gl _ (by omega), hlow6 _ (by omega)]; exact hn.field, by rw [gl _ (by omega), s6.out _ (by omega)]; exact b83, by rw [gl _ (by omega), s6.out _ (by omega)]; exact a93, by rw [gl _ (by omega)]; exact a106, by rw [gl _ (by omega)]; exact q11, by rw [gl _ (by omega)]; exact q12, by rw [gl _ (by omega), q13, ← hpl], by rw [gl _ (by omega)]; exact q14, by rw [gl _ (by omega)]; exact q15, by rw [gl _ (by omega)]; exact q16, get_set (by have := s6.size; omega)⟩
end Go.Proofs.YtnegdabcjnhpdaaGreatDoor
/- A step on the way to the newest record; a word of the record's body; when the field had it. -/
namespace Go.Proofs.YtnegdabcjnhpdaaGreatDoor
open Go.RowKit
open Mm (IsMem MS touched Only)
open Hh (WT)

theorem NwAt.put {c : Array Value} {o B : Nat} {K : Cf} {n : Nw} (h : NwAt c o B K n) (hb : n.sb = some ⟨B, 0, none⟩) (s' : Sm) (v : Bool) (h1 : s'.rc = n.s.rc) (h2 : s'.place = n.s.place) :
    NwAt ((smPut c (o + 11) s').setIfInBounds (o + 17) (.bool v)) o B K { n with s := s', on := v } ∧ Same c ((smPut c (o + 11) s').setIfInBounds (o + 17) (.bool v)) (o + 8) (o + 17) := by
  have hz := h.size
  have sm := h.sm hb
  have pa := smPut_at (s' := s') sm h1 h2
  have sz : (smPut c (o + 11) s').size = c.size := by simp [smPut]
  have gl : ∀ i, i < o + 14 → ((smPut c (o + 11) s').setIfInBounds (o + 17) (.bool v))[i]? = c[i]? := fun i hi => by rw [get_set_ne (by omega), smPut_other (by omega)]
  refine ⟨⟨by rw [gl _ (by omega)]; exact h.k0, by rw [gl _ (by omega)]; exact h.k1, by rw [gl _ (by omega)]; exact h.k2, by rw [gl _ (by omega)]; exact h.k3, by rw [gl _ (by omega)]; exact h.k4, by rw [gl _ (by omega)]; exact h.k5, by rw [gl _ (by omega)]; exact h.b, by rw [gl _ (by omega)]; exact h.field, by rw [gl _ (by omega)]; exact h.word, by rw [gl _ (by omega)]; exact h.since, by rw [gl _ (by omega)]; exact h.rc, by rw [gl _ (by omega)]; exact h.sb, by rw [gl _ (by omega), h1]; exact h.src, by rw [gl _ (by omega), h2]; exact h.spl, by rw [get_set_ne (by omega)]; exact pa.pc, by rw [get_set_ne (by omega)]; exact pa.clock, by rw [get_set_ne (by omega)]; exact pa.point, get_set (by omega)⟩, (Same.smPut c (o + 11) s' (by omega)).trans (Same.set _ _ (by omega))⟩

theorem Sm.step_keeps (s : Sm) (g : Gs) : (s.step g).1.rc = s.rc ∧ (s.step g).1.place = s.place := by
  unfold Sm.step
  split
  · exact ⟨rfl, rfl⟩
  · split
    · exact ⟨rfl, rfl⟩
    · split <;> exact ⟨rfl, rfl⟩

set_option maxHeartbeats 2000000 in
theorem find_on {w : World} {lo M G B P o : Nat} {g : Gs} {c : Array Value} {t : TypeId} {K : Cf} {n : Nw} (is : InF w w lo M G B K.N g P c t) (hn : NwAt c o B K n) (hk : n.Ok B K.N) (hT : g.T + 1 < 4611686018427387904) (hon : n.on = true) :
    Calls Tryz.prog 69 #[.pointer (some ⟨P, o, none⟩), .pointer (some ⟨M, 0, none⟩)] w fun r w' => r = .returned (.bool (!(n.find K B g).1.on)) ∧ ∃ c', InF w w' lo M G B K.N (n.find K B g).2 P c' t ∧ NwAt c' o B K (n.find K B g).1 ∧ Same c c' (o + 8) (o + 17) := by
  obtain ⟨hsb, hsk⟩ := hk.sm hon
  have e : n.find K B g = ({ n with s := (n.s.step g).1, on := !decide ((n.s.step g).1.pc = 3) }, (n.s.step g).2) := by unfold Nw.find; rw [if_pos hon]
  rw [e]
  have cs := stp_any is (hn.sm hsb) hsk hT
  have hp := hn.put hsb (n.s.step g).1 (!decide ((n.s.step g).1.pc = 3)) (n.s.step_keeps g).1 (n.s.step_keeps g).2
  have HP : Hid (NwAt ((smPut c (o + 11) (n.s.step g).1).setIfInBounds (o + 17) (.bool (!decide ((n.s.step g).1.pc = 3)))) o B K { n with s := (n.s.step g).1, on := !decide ((n.s.step g).1.pc = 3) } ∧ Same c ((smPut c (o + 11) (n.s.step g).1).setIfInBounds (o + 17) (.bool (!decide ((n.s.step g).1.pc = 3)))) (o + 8) (o + 17)) := hp
  have l17 := is.cell hn.on
  rw [hon] at l17
  have e17 : (smPut c (o + 11) (n.s.step g).1)[o + 17]? = some (.bool true) := by rw [smPut_other (by omega), hn.on, hon]
  have hz : o + 17 < (smPut c (o + 11) (n.s.step g).1).size := by have := hn.size; simp [smPut]; omega
  obtain ⟨n', hn'⟩ : ∃ n' : Nw, ({ n with s := (n.s.step g).1, on := !decide ((n.s.step g).1.pc = 3) } : Nw) = n' := ⟨_, rfl⟩
  have hon' : n'.on = !decide ((n.s.step g).1.pc = 3) := by rw [← hn']
  rw [hn'] at HP ⊢
  show Calls _ _ _ _ fun r w' => r = .returned (.bool (!n'.on)) ∧ _
  rw [hon']
  clear hp hn' hon' e
  generalize (n.s.step g).2 = g' at *
  generalize decide ((n.s.step g).1.pc = 3) = dn at *
  generalize smPut c (o + 11) (n.s.step g).1 = c1 at *
  clear hn hk hsb hsk hon is
  go_enter Tryz.func69, Tryz.ntmps69
  go_upto_region 4 with (go_at_call 9; refine cs.mono ?_; rintro e w1 ⟨rfl, i1⟩; clear l17; have l17 := i1.cell e17; have f17 := i1.free (o + 17))
  have i2 := i1.set (o + 17) (.bool !dn)
  clear l17 f17 i1 cs
  generalize w1.setCell ⟨P, o + 17, none⟩ (.bool !dn) = w2 at *
  have l17 := i2.cell (get_set hz)
  go_wp2
  go_ret
  exact ⟨by rw [Bool.not_not]; rfl, _, i2, HP.out.1, HP.out.2⟩

set_option maxHeartbeats 2000000 in
theorem find_off {w : World} {lo M G B P o : Nat} {g : Gs} {c : Array Value} {t : TypeId} {K : Cf} {n : Nw} (hK : K.Ok) (hB : 3 ≤ K.B) (is : InF w w lo M G B K.N g P c t) (hn : NwAt c o B K n) (hk : n.Ok B K.N) (hT : g.T + 1 < 4611686018427387904) (hon : n.on = false) :
    Calls Tryz.prog 69 #[.pointer (some ⟨P, o, none⟩), .pointer (some ⟨M, 0, none⟩)] w fun r w' => r = .returned (.bool (!(n.find K B g).1.on)) ∧ ∃ c', InF w w' lo M G B K.N (n.find K B g).2 P c' t ∧ NwAt c' o B K (n.find K B g).1 ∧ Same c c' (o + 8) (o + 17) := by
  have cl := loadField_any hK hB is hn hk hT hon
  have l17 := is.cell hn.on
  rw [hon] at l17
  generalize n.find K B g = nf at *
  clear hn hk hon is
  go_enter Tryz.func69, Tryz.ntmps69
  go_wp2_with (go_at_call 83; refine cl.mono ?_; rintro e w1 ⟨rfl, c', i1, h1, s1⟩; clear l17; have l17 := i1.cell h1.on)
  go_ret
  exact ⟨rfl, c', i1, h1, s1⟩

/-- A step on the way to the newest record. -/
theorem find_any {w : World} {lo M G B P o : Nat} {g : Gs} {c : Array Value} {t : TypeId} {K : Cf} {n : Nw} (hK : K.Ok) (hB : 3 ≤ K.B) (is : InF w w lo M G B K.N g P c t) (hn : NwAt c o B K n) (hk : n.Ok B K.N) (hT : g.T + 1 < 4611686018427387904) :
    Calls Tryz.prog 69 #[.pointer (some ⟨P, o, none⟩), .pointer (some ⟨M, 0, none⟩)] w fun r w' => r = .returned (.bool (!(n.find K B g).1.on)) ∧ ∃ c', InF w w' lo M G B K.N (n.find K B g).2 P c' t ∧ NwAt c' o B K (n.find K B g).1 ∧ Same c c' (o + 8) (o + 17) := by
  cases hon : n.on
  · exact find_off hK hB is hn hk hT hon
  · exact find_on is hn hk hT hon

theorem NwAt.cfg {w wr : World} {lo M G B N P o : Nat} {g : Gs} {c : Array Value} {t : TypeId} {K : Cf} {n : Nw} (is : InF w wr lo M G B N g P c t) (hn : NwAt c o B K n) : wr.cell? ⟨P, o, none⟩ = some (.int .i64 (K.S : Nat)) ∧ wr.cell? ⟨P, o + 1, none⟩ = some (.int .i64 K.a) ∧ wr.cell? ⟨P, o + 2, none⟩ = some (.int .i64 (K.C : Nat)) ∧ wr.cell? ⟨P, o + 3, none⟩ = some (.int .i64 (K.D : Nat)) ∧ wr.cell? ⟨P, o + 4, none⟩ = some (.int .i64 K.g) ∧ wr.cell? ⟨P, o + 5, none⟩ = some (.int .i64 K.k) ∧ wr.cell? ⟨P, o + 10, none⟩ = some (.int .i64 n.rc) :=
  ⟨is.cell hn.k0, is.cell hn.k1, is.cell hn.k2, is.cell hn.k3, is.cell hn.k4, is.cell hn.k5, is.cell hn.rc⟩

/-! A word of the record's body. -/
set_option maxHeartbeats 2000000 in
theorem nload_any {w : World} {lo M G B P o : Nat} {g : Gs} {c : Array Value} {t : TypeId} {K : Cf} {n : Nw} (hK : K.Ok) (is : InF w w lo M G B K.N g P c t) (hn : NwAt c o B K n) (hT : g.T + 1 < 4611686018427387904) {r i : Nat} (hr : (r : Int) = n.rc) (hrS : r < K.S) (hi : i < K.B) {iz : Int} (hiz : (i : Int) = iz) {v : Nat} (hv : g.X.getD (K.bd r i) 0 = v) :
    Calls Tryz.prog 72 #[.pointer (some ⟨P, o, none⟩), .pointer (some ⟨M, 0, none⟩), .int .i64 iz] w fun e w' => e = .returned (.int .u64 (v : Nat)) ∧ InF w w' lo M G B K.N { g with T := g.T + 1 } P c t := by
  have cb := fun w => body_at hK hrS hi hr hiz w
  unfold Cf.cs at cb
  have hl : K.bd r i < g.X.length := by rw [is.gw.len]; exact K.bd_lt hrS hi
  have cl : ∀ wr, InF w wr lo M G B K.N g P c t → Calls Tryz.prog 24 #[.pointer (some ⟨M, 0, none⟩), .int .i64 (K.bd r i : Nat)] wr fun e w' => e = .returned (.int .u64 (v : Nat)) ∧ InF w w' lo M G B K.N { g with T := g.T + 1 } P c t := fun wr x => (loadX x.gw.mem hl x.gw.tb hv).mono fun e w' ⟨h1, h2, h3⟩ => ⟨h1, x.only h2 h3 x.gw.len (by omega) hT⟩
  have hcf := fun wr (x : InF w wr lo M G B K.N g P c t) => hn.cfg x
  have hcf2 := fun wr (x : InF w wr lo M G B K.N { g with T := g.T + 1 } P c t) => hn.cfg x
  clear hn hl hr hrS hi hiz hv
  generalize ((K.bd r i : Nat) : Int) = pl at *
  generalize n.rc = rz at *
  go_enter Tryz.func72, Tryz.ntmps72
  go_upto_region 1 with fail
  replace is := is.drew
  go_region_held (fun wr => wr.cell? ⟨P, o, none⟩ = some (.int .i64 (K.S : Nat)) ∧ wr.cell? ⟨P, o + 1, none⟩ = some (.int .i64 K.a) ∧ wr.cell? ⟨P, o + 2, none⟩ = some (.int .i64 (K.C : Nat)) ∧ wr.cell? ⟨P, o + 3, none⟩ = some (.int .i64 (K.D : Nat)) ∧ wr.cell? ⟨P, o + 4, none⟩ = some (.int .i64 K.g) ∧ wr.cell? ⟨P, o + 5, none⟩ = some (.int .i64 K.k) ∧ wr.cell? ⟨P, o + 10, none⟩ = some (.int .i64 rz)) (first | (with_reducible exact hcf _ is) | (with_reducible exact hcf2 _ is)) (first
    | (go_at_call 37; with_reducible refine (cb _).mono ?_; rintro e w1 ⟨rfl, b⟩; replace is := is.below b; clear b)
    | (go_at_call 24; with_reducible refine (cl _ is).mono ?_; rintro e w2 ⟨rfl, i2⟩; clear is; have is := i2; clear i2))
  go_wp2
  go_ret
  exact ⟨rfl, is⟩

set_option maxHeartbeats 2000000 in
theorem nloadSlot_any {w : World} {lo M G B P o : Nat} {g : Gs} {c : Array Value} {t : TypeId} {K : Cf} {n : Nw} (hK : K.Ok) (is : InF w w lo M G B K.N g P c t) (hn : NwAt c o B K n) (hT : g.T + 1 < 4611686018427387904) {r i : Nat} (hr : (r : Int) = n.rc) (hrS : r < K.S) (hi : i < K.B) {iz : Int} (hiz : (i : Int) = iz) {v : Nat} (hv : g.X.getD (K.bd r i) 0 = v) :
    Calls Tryz.prog 52 #[.pointer (some ⟨P, o, none⟩), .pointer (some ⟨M, 0, none⟩), .int .i64 iz] w fun e w' => e = .returned (.int .i64 (nm K v)) ∧ InF w w' lo M G B K.N { g with T := g.T + 1 } P c t := by
  have hvl : v < 18446744073709551616 := by rw [← hv]; exact is.gw.mem.fits _
  have cn := named_any hK v hvl
  unfold Cf.cs at cn
  have cl0 := fun w' (x : InF w' w' lo M G B K.N g P c t) => nload_any hK x hn hT hr hrS hi hiz hv
  have cl : ∀ wr, InF w wr lo M G B K.N g P c t → Calls Tryz.prog 72 #[.pointer (some ⟨P, o, none⟩), .pointer (some ⟨M, 0, none⟩), .int .i64 iz] wr fun e w' => e = .returned (.int .u64 (v : Nat)) ∧ InF w w' lo M G B K.N { g with T := g.T + 1 } P c t := fun wr x => (cl0 wr (InF.start x.gw x.blk x.hP x.lo)).mono fun e w' ⟨h1, h2⟩ => ⟨h1, h2.gw, h2.blk, x.cm.trans h2.cm, h2.hP, h2.lo⟩
  have hcf := fun wr (x : InF w wr lo M G B K.N g P c t) => hn.cfg x
  have hcf2 := fun wr (x : InF w wr lo M G B K.N { g with T := g.T + 1 } P c t) => hn.cfg x
  clear hn hr hrS hi hiz hv cl0 hvl
  generalize nm K v = z at *
  go_enter Tryz.func52, Tryz.ntmps52
  go_upto_region 1 with fail
  replace is := is.drew
  go_region_held (fun wr => wr.cell? ⟨P, o, none⟩ = some (.int .i64 (K.S : Nat)) ∧ wr.cell? ⟨P, o + 1, none⟩ = some (.int .i64 K.a) ∧ wr.cell? ⟨P, o + 2, none⟩ = some (.int .i64 (K.C : Nat)) ∧ wr.cell? ⟨P, o + 3, none⟩ = some (.int .i64 (K.D : Nat)) ∧ wr.cell? ⟨P, o + 4, none⟩ = some (.int .i64 K.g) ∧ wr.cell? ⟨P, o + 5, none⟩ = some (.int .i64 K.k) ∧ wr.cell? ⟨P, o + 10, none⟩ = some (.int .i64 n.rc)) (first | (with_reducible exact hcf _ is) | (with_reducible exact hcf2 _ is)) (first
    | (go_at_call 72; with_reducible refine (cl _ is).mono ?_; rintro e w2 ⟨rfl, i2⟩; clear is; have is := i2; clear i2)
    | (go_at_call 71; with_reducible refine (cn _).mono ?_; rintro e w1 ⟨rfl, b⟩; replace is := is.below b; clear b))
  go_wp2
  go_ret
  exact ⟨rfl, is⟩

/-- When the field had what was found. -/
def ptOf (since : Int) (b : Option Int) : Int := match b with
  | some p => if since < p then p else since
  | none => since
set_option maxHeartbeats 2000000 in
theorem npoint_any {w : World} {lo M G B P o : Nat} {g : Gs} {c : Array Value} {t : TypeId} {K : Cf} {n : Nw} (is : InF w w lo M G B K.N g P c t) (hn : NwAt c o B K n) (hw : (Lit.int .i64 n.rc).wf = true) :
    Calls Tryz.prog 70 #[.pointer (some ⟨P, o, none⟩)] w fun e w' => e = .returned (.int .i64 (ptOf n.since (g.k.born n.rc))) ∧ Below w.heap.size w w' := by
  obtain ⟨mb, mt, bk⟩ := is.gw.book
  have hl := (bk.below (Below.refl _ _).drew).pb.look Tryz.underlying3 Tryz.underlying40 n.rc hw
  have is2 := is.drew
  have n1 : w.drew.cell? ⟨B, 1, none⟩ = some mb := bk.cells.2.1
  have l6 := is2.cell hn.b
  have l9 := is2.cell hn.since
  have l10 := is2.cell hn.rc
  have bel : Below w.heap.size w w.drew := (Below.refl _ _).drew
  clear is is2 bk hw hn
  generalize n.rc = rz at *
  generalize n.since = sc at *
  cases hb : g.k.born rz with
  | none =>
    rw [hb] at hl
    simp only [Option.getD_none, Option.isSome_none] at hl
    go_enter Tryz.func70, Tryz.ntmps70
    go_upto_region 1 with fail
    go_region_held (fun wr => wr.cell? ⟨P, o + 6, none⟩ = some (.pointer (some ⟨B, 0, none⟩)) ∧ wr.cell? ⟨P, o + 10, none⟩ = some (.int .i64 rz) ∧ wr.cell? ⟨B, 1, none⟩ = some mb ∧ (Instr.lookup 40 mb (.int .i64 rz) true).run Tryz.prog wr = .ok (.tuple #[.int .i64 0, .bool false]) wr) (with_reducible exact ⟨l6, l10, n1, hl⟩) (fail)
    go_wp2
    go_ret
    exact ⟨rfl, bel⟩
  | some p =>
    rw [hb] at hl
    simp only [Option.getD_some, Option.isSome_some] at hl
    by_cases hp : sc < p
    · have e : ptOf sc (some p) = p := if_pos hp
      rw [e]
      go_enter Tryz.func70, Tryz.ntmps70
      go_upto_region 1 with fail
      go_region_held (fun wr => wr.cell? ⟨P, o + 6, none⟩ = some (.pointer (some ⟨B, 0, none⟩)) ∧ wr.cell? ⟨P, o + 10, none⟩ = some (.int .i64 rz) ∧ wr.cell? ⟨B, 1, none⟩ = some mb ∧ (Instr.lookup 40 mb (.int .i64 rz) true).run Tryz.prog wr = .ok (.tuple #[.int .i64 p, .bool true]) wr) (with_reducible exact ⟨l6, l10, n1, hl⟩) (fail)
      go_wp2
      go_ret
      exact ⟨rfl, bel⟩
    · have e : ptOf sc (some p) = sc := if_neg hp
      rw [e]
      go_enter Tryz.func70, Tryz.ntmps70
      go_upto_region 1 with fail
      go_region_held (fun wr => wr.cell? ⟨P, o + 6, none⟩ = some (.pointer (some ⟨B, 0, none⟩)) ∧ wr.cell? ⟨P, o + 10, none⟩ = some (.int .i64 rz) ∧ wr.cell? ⟨B, 1, none⟩ = some mb ∧ (Instr.lookup 40 mb (.int .i64 rz) true).run Tryz.prog wr = .ok (.tuple #[.int .i64 p, .bool true]) wr) (with_reducible exact ⟨l6, l10, n1, hl⟩) (fail)
      go_wp2
      go_ret
      exact ⟨rfl, bel⟩
end Go.Proofs.YtnegdabcjnhpdaaGreatDoor
/- Contracts of package field's Read. -/
namespace Go.Proofs.YtnegdabcjnhpdaaGreatDoor
open Go.RowKit
open Mm (IsMem MS touched Only)
open Hh (WT)

structure Rd where
  rc : Int
  val : Int
  point : Int
  n : Nw
  pc : Int
structure RdAt (c : Array Value) (B : Nat) (K : Cf) (r : Rd) : Prop where
  rc : c[0]? = some (.int .i64 r.rc)
  val : c[1]? = some (.int .i64 r.val)
  point : c[2]? = some (.int .i64 r.point)
  n : NwAt c 3 B K r.n
  pc : c[21]? = some (.int .i64 r.pc)
theorem NwAt.same {c c' : Array Value} {o B : Nat} {K : Cf} {n : Nw} (h : NwAt c o B K n) (hs : ∀ i, o ≤ i → i ≤ o + 17 → c'[i]? = c[i]?) : NwAt c' o B K n :=
  ⟨by rw [hs _ (by omega) (by omega)]; exact h.k0, by rw [hs _ (by omega) (by omega)]; exact h.k1, by rw [hs _ (by omega) (by omega)]; exact h.k2, by rw [hs _ (by omega) (by omega)]; exact h.k3, by rw [hs _ (by omega) (by omega)]; exact h.k4, by rw [hs _ (by omega) (by omega)]; exact h.k5, by rw [hs _ (by omega) (by omega)]; exact h.b, by rw [hs _ (by omega) (by omega)]; exact h.field, by rw [hs _ (by omega) (by omega)]; exact h.word, by rw [hs _ (by omega) (by omega)]; exact h.since, by rw [hs _ (by omega) (by omega)]; exact h.rc, by rw [hs _ (by omega) (by omega)]; exact h.sb, by rw [hs _ (by omega) (by omega)]; exact h.src, by rw [hs _ (by omega) (by omega)]; exact h.spl, by rw [hs _ (by omega) (by omega)]; exact h.spc, by rw [hs _ (by omega) (by omega)]; exact h.sck, by rw [hs _ (by omega) (by omega)]; exact h.spt, by rw [hs _ (by omega) (by omega)]; exact h.on⟩

set_option maxHeartbeats 4000000 in
theorem rend_any {w : World} {lo M G B P : Nat} {g : Gs} {c : Array Value} {t : TypeId} {K : Cf} {r : Rd} (is : InF w w lo M G B K.N g P c t) (hr : RdAt c B K r) (hw : (Lit.int .i64 r.n.rc).wf = true) (val : Int) :
    Calls Tryz.prog 51 #[.pointer (some ⟨P, 0, none⟩), .int .i64 val] w fun e w' => e = .returned (.tuple #[]) ∧ ∃ c', InF w w' lo M G B K.N g P c' t ∧ RdAt c' B K ⟨r.n.rc, val, ptOf r.n.since (g.k.born r.n.rc), r.n, 2⟩ := by
  have cp : ∀ wr, InF w wr lo M G B K.N g P c t → Calls Tryz.prog 70 #[.pointer (some ⟨P, 3, none⟩)] wr fun e w' => e = .returned (.int .i64 (ptOf r.n.since (g.k.born r.n.rc))) ∧ Below wr.heap.size wr w' := fun wr x => npoint_any (InF.start x.gw x.blk x.hP x.lo) hr.n hw
  obtain ⟨pt, hpt⟩ : ∃ pt, ptOf r.n.since (g.k.born r.n.rc) = pt := ⟨_, rfl⟩
  rw [hpt] at cp ⊢
  have h13 := hr.n.rc
  have hz := hr.n.size
  have hz2 := (Array.getElem?_eq_some_iff.1 hr.pc).1
  obtain ⟨rz, hrz⟩ : ∃ rz, r.n.rc = rz := ⟨_, rfl⟩
  rw [hrz] at h13 ⊢
  have k0 : ∀ wr, InF w wr lo M G B K.N g P c t → (wr.cell? ⟨P, 0, none⟩ = some (.int .i64 r.rc) ∧ wr.cell? ⟨P, 1, none⟩ = some (.int .i64 r.val) ∧ wr.cell? ⟨P, 2, none⟩ = some (.int .i64 r.point)) ∧ wr.frozen? ⟨P, 0, none⟩ = false ∧ wr.frozen? ⟨P, 1, none⟩ = false ∧ wr.frozen? ⟨P, 2, none⟩ = false := fun wr x => ⟨⟨x.cell hr.rc, x.cell hr.val, x.cell hr.point⟩, x.free _, x.free _, x.free _⟩
  have h3 : ∀ wr, InF w wr lo M G B K.N g P c t → InF w (((wr.setCell ⟨P, 0, none⟩ (.int .i64 rz)).setCell ⟨P, 1, none⟩ (.int .i64 val)).setCell ⟨P, 2, none⟩ (.int .i64 pt)) lo M G B K.N g P (((c.setIfInBounds 0 (.int .i64 rz)).setIfInBounds 1 (.int .i64 val)).setIfInBounds 2 (.int .i64 pt)) t := fun wr x => ((x.set _ _).set _ _).set _ _
  have h2 : ∀ wr, InF w wr lo M G B K.N g P c t → InF w ((wr.setCell ⟨P, 0, none⟩ (.int .i64 rz)).setCell ⟨P, 1, none⟩ (.int .i64 val)) lo M G B K.N g P ((c.setIfInBounds 0 (.int .i64 rz)).setIfInBounds 1 (.int .i64 val)) t := fun wr x => (x.set _ _).set _ _
  have h1 : ∀ wr, InF w wr lo M G B K.N g P c t → InF w (wr.setCell ⟨P, 0, none⟩ (.int .i64 rz)) lo M G B K.N g P (c.setIfInBounds 0 (.int .i64 rz)) t := fun wr x => x.set _ _
  have g1 : (c.setIfInBounds 0 (.int .i64 rz))[3 + 10]? = some (.int .i64 rz) := by rw [get_set_ne (by omega)]; exact h13
  have g2 : ((c.setIfInBounds 0 (.int .i64 rz)).setIfInBounds 1 (.int .i64 val))[3 + 10]? = some (.int .i64 rz) := by rw [get_set_ne (by omega)]; exact g1
  have g3 : (((c.setIfInBounds 0 (.int .i64 rz)).setIfInBounds 1 (.int .i64 val)).setIfInBounds 2 (.int .i64 pt))[3 + 10]? = some (.int .i64 rz) := by rw [get_set_ne (by omega)]; exact g2
  have hfin : RdAt ((((c.setIfInBounds 0 (.int .i64 rz)).setIfInBounds 1 (.int .i64 val)).setIfInBounds 2 (.int .i64 pt)).setIfInBounds 21 (.int .i64 2)) B K ⟨rz, val, pt, r.n, 2⟩ := by
    refine ⟨?_, ?_, ?_, ?_, ?_⟩
    · rw [get_set_ne (by omega), get_set_ne (by omega), get_set_ne (by omega), get_set (by omega)]
    · rw [get_set_ne (by omega), get_set_ne (by omega), get_set (by simp; omega)]
    · rw [get_set_ne (by omega), get_set (by simp; omega)]
    · exact hr.n.same fun i h1 h2 => by rw [get_set_ne (by omega), get_set_ne (by omega), get_set_ne (by omega), get_set_ne (by omega)]
    · rw [get_set (by simp; omega)]
  have h21 : (((c.setIfInBounds 0 (.int .i64 rz)).setIfInBounds 1 (.int .i64 val)).setIfInBounds 2 (.int .i64 pt))[21]? = some (.int .i64 r.pc) := by
    rw [get_set_ne (by omega), get_set_ne (by omega), get_set_ne (by omega)]; exact hr.pc
  have HF : Hid (RdAt ((((c.setIfInBounds 0 (.int .i64 rz)).setIfInBounds 1 (.int .i64 val)).setIfInBounds 2 (.int .i64 pt)).setIfInBounds 21 (.int .i64 2)) B K ⟨rz, val, pt, r.n, 2⟩) := hfin
  clear hfin hpt hrz hw hr
  generalize r.rc = r0 at *
  generalize r.val = r1 at *
  generalize r.point = r2 at *
  go_enter Tryz.func51, Tryz.ntmps51
  go_upto_region 0 with fail
  replace is := is.drew
  obtain ⟨⟨l0, l1, l2⟩, f0, f1, f2⟩ := k0 _ is
  go_region_held (fun wr => wr.cell? ⟨P, 13, none⟩ = some (.int .i64 rz)) (first | (exact is.cell h13) | (exact (h1 _ is).cell g1) | (exact (h2 _ is).cell g2) | (exact (h3 _ is).cell g3)) (first
    | (go_at_call 70; with_reducible refine (cp _ is).mono ?_; rintro e w1 ⟨rfl, b⟩; replace is := is.below b; clear b l0 l1 l2 f0 f1 f2; obtain ⟨⟨l0, l1, l2⟩, f0, f1, f2⟩ := k0 _ is))
  replace is := h3 _ is
  clear l0 l1 l2 f0 f1 f2 k0 h1 h2 h3 g1 g2 cp
  generalize ((w1.setCell ⟨P, 0, none⟩ (.int .i64 rz)).setCell ⟨P, 1, none⟩ (.int .i64 val)).setCell ⟨P, 2, none⟩ (.int .i64 pt) = w2 at *
  have l21 := is.cell h21
  have f21 := is.free 21
  have i9 := is.set 21 (.int .i64 2)
  clear is
  go_wp2
  go_end0
  exact ⟨rfl, _, i9, HF.out⟩
end Go.Proofs.YtnegdabcjnhpdaaGreatDoor
/- A Read's steps. -/
namespace Go.Proofs.YtnegdabcjnhpdaaGreatDoor
open Go.RowKit
open Mm (IsMem MS touched Only)
open Hh (WT)

def Rd.ended (r : Rd) (g : Gs) (val : Int) : Rd := ⟨r.n.rc, val, ptOf r.n.since (g.k.born r.n.rc), r.n, 2⟩
def Rd.step (r : Rd) (K : Cf) (B : Nat) (g : Gs) : Rd × Gs :=
  if r.pc = 0 then
    if (r.n.find K B g).1.on = true then ({ r with n := (r.n.find K B g).1 }, (r.n.find K B g).2)
    else if (r.n.find K B g).1.rc = -1 then (Rd.ended { r with n := (r.n.find K B g).1 } (r.n.find K B g).2 (-1), (r.n.find K B g).2)
    else ({ r with n := (r.n.find K B g).1, pc := 1 }, (r.n.find K B g).2)
  else if r.pc = 1 then (r.ended { g with T := g.T + 1 } (nm K (g.X.getD (K.bd r.n.rc.toNat 0) 0)), { g with T := g.T + 1 })
  else (r, g)

theorem RdAt.find {c c' : Array Value} {B : Nat} {K : Cf} {r : Rd} {n' : Nw} (h : RdAt c B K r) (hn : NwAt c' 3 B K n') (hs : Same c c' (3 + 8) (3 + 17)) : RdAt c' B K { r with n := n' } :=
  ⟨by rw [hs.out _ (by omega)]; exact h.rc, by rw [hs.out _ (by omega)]; exact h.val, by rw [hs.out _ (by omega)]; exact h.point, hn, by rw [hs.out _ (by omega)]; exact h.pc⟩
theorem RdAt.setpc {c : Array Value} {B : Nat} {K : Cf} {r : Rd} (h : RdAt c B K r) (v : Int) : RdAt (c.setIfInBounds 21 (.int .i64 v)) B K { r with pc := v } :=
  ⟨by rw [get_set_ne (by omega)]; exact h.rc, by rw [get_set_ne (by omega)]; exact h.val, by rw [get_set_ne (by omega)]; exact h.point, h.n.same fun i h1 h2 => by rw [get_set_ne (by omega)], get_set (Array.getElem?_eq_some_iff.1 h.pc).1⟩
theorem InF.join {w wr w' : World} {lo M G B N : Nat} {g g' : Gs} {P : Nat} {c c' : Array Value} {t : TypeId} (h : InF w wr lo M G B N g P c t) (k : InF wr w' lo M G B N g' P c' t) : InF w w' lo M G B N g' P c' t := ⟨k.gw, k.blk, h.cm.trans k.cm, k.hP, k.lo⟩
theorem InF.restart {w wr : World} {lo M G B N : Nat} {g : Gs} {P : Nat} {c : Array Value} {t : TypeId} (h : InF w wr lo M G B N g P c t) : InF wr wr lo M G B N g P c t := InF.start h.gw h.blk h.hP h.lo

set_option maxHeartbeats 4000000 in
theorem rfind_any {w : World} {lo M G B P : Nat} {g : Gs} {c : Array Value} {t : TypeId} {K : Cf} {r : Rd} (hK : K.Ok) (hB : 3 ≤ K.B) (is : InF w w lo M G B K.N g P c t) (hr : RdAt c B K r) (hk : r.n.Ok B K.N) (hT : g.T + 1 < 4611686018427387904) (hpc : r.pc = 0) (hw : (Lit.int .i64 (r.n.find K B g).1.rc).wf = true) :
    Calls Tryz.prog 50 #[.pointer (some ⟨P, 0, none⟩), .pointer (some ⟨M, 0, none⟩)] w fun e w' => e = .returned (.tuple #[]) ∧ ∃ c', InF w w' lo M G B K.N (r.step K B g).2 P c' t ∧ RdAt c' B K (r.step K B g).1 := by
  have cf := find_any hK hB is hr.n hk hT
  obtain ⟨n', g', hnf⟩ : ∃ n' g', r.n.find K B g = (n', g') := ⟨_, _, rfl⟩
  have hst : r.step K B g = if n'.on = true then ({ r with n := n' }, g') else if n'.rc = -1 then (Rd.ended { r with n := n' } g' (-1), g') else ({ r with n := n', pc := 1 }, g') := by
    unfold Rd.step; rw [if_pos hpc, hnf]
  rw [hst]
  rw [hnf] at cf hw
  simp only at cf hw
  clear hst hnf
  cases hon : n'.on
  · rw [hon] at cf
    simp only [Bool.not_false] at cf
    by_cases hrc : n'.rc = -1
    · simp only [Bool.false_eq_true, if_false, if_pos hrc]
      have ce : ∀ wr c1, InF w wr lo M G B K.N g' P c1 t → RdAt c1 B K { r with n := n', pc := 1 } → Calls Tryz.prog 51 #[.pointer (some ⟨P, 0, none⟩), .int .i64 (-1)] wr fun e w' => e = .returned (.tuple #[]) ∧ ∃ c', InF w w' lo M G B K.N g' P c' t ∧ RdAt c' B K (Rd.ended { r with n := n' } g' (-1)) := fun wr c1 x hx => (rend_any x.restart hx hw (-1)).mono fun e w' ⟨h1, c', h2, h3⟩ => ⟨h1, c', x.join h2, h3⟩
      clear hw
      generalize Rd.ended { r with n := n' } g' (-1) = re at *
      go_enter Tryz.func50, Tryz.ntmps50
      go_upto_region 1 with (go_at_call 69; refine cf.mono ?_; rintro e w1 ⟨rfl, c1, i1, h1, s1⟩; have r1 := hr.find h1 s1)
      have l21 := i1.cell r1.pc
      have f21 := i1.free 21
      have i2 := i1.set 21 (.int .i64 1)
      have r2 := r1.setpc 1
      go_upto_region 2 with fail
      clear l21 f21 i1 r1 s1 cf
      generalize w1.setCell ⟨P, 21, none⟩ (.int .i64 1) = w2 at *
      have l13 := i2.cell r2.n.rc
      simp only [hrc] at l13
      go_wp2_with (go_at_call 51; refine (ce _ _ i2 r2).mono ?_; rintro e w3 ⟨rfl, c3, i3, r3⟩)
      go_end0
      exact ⟨rfl, c3, i3, r3⟩
    · simp only [Bool.false_eq_true, if_false, if_neg hrc]
      have hne : (n'.rc == -1) = false := by simpa using hrc
      go_enter Tryz.func50, Tryz.ntmps50
      go_upto_region 1 with (go_at_call 69; refine cf.mono ?_; rintro e w1 ⟨rfl, c1, i1, h1, s1⟩; have r1 := hr.find h1 s1)
      have l21 := i1.cell r1.pc
      have f21 := i1.free 21
      have i2 := i1.set 21 (.int .i64 1)
      have r2 := r1.setpc 1
      go_upto_region 2 with fail
      clear l21 f21 i1 r1 s1 cf
      generalize w1.setCell ⟨P, 21, none⟩ (.int .i64 1) = w2 at *
      have l13 := i2.cell r2.n.rc
      simp only at l13
      go_wp2
      go_end0
      exact ⟨rfl, _, i2, r2⟩
  · rw [hon] at cf
    simp only [Bool.not_true] at cf
    rw [if_pos rfl]
    go_enter Tryz.func50, Tryz.ntmps50
    go_wp2_with (go_at_call 69; refine cf.mono ?_; rintro e w1 ⟨rfl, c1, i1, h1, s1⟩; have r1 := hr.find h1 s1)
    refine bodyPost_ret (results_none rfl _ _ _) rfl ?_
    exact ⟨rfl, c1, i1, r1⟩
end Go.Proofs.YtnegdabcjnhpdaaGreatDoor
/- A Read's step, whatever it is at; what stays so behind it. -/
namespace Go.Proofs.YtnegdabcjnhpdaaGreatDoor
open Go.RowKit
open Mm (IsMem MS touched Only)
open Hh (WT)

/-- What holds of what finds the newest record: it is of this config, and once it has a record that one is a slot. -/
structure Nw.Fit (n : Nw) (K : Cf) (B : Nat) : Prop where
  ok : n.Ok B K.N
  rc : -1 ≤ n.rc ∧ n.rc < (K.S : Int)
theorem wf_rc {K : Cf} (hK : K.Ok) {z : Int} (h : -1 ≤ z ∧ z < (K.S : Int)) : (Lit.int .i64 z).wf = true := WalkArith.wf_i64 (by have := hK.s64; omega)
theorem Sm.step_ok {s : Sm} {N : Nat} (h : s.Ok N) {g : Gs} (hx : g.X.getD 0 0 < 18446744073709551616) (hn : -4611686018427387904 < g.k.now ∧ g.k.now < 4611686018427387904) : (s.step g).1.Ok N := by
  unfold Sm.step
  split
  · exact ⟨by show 0 ≤ (if g.X.getD s.place 0 = 0 then (1 : Int) else 3) ∧ (if g.X.getD s.place 0 = 0 then (1 : Int) else 3) ≤ 3; split <;> omega, h.place, h.clock, h.rc, h.point⟩
  · split
    · exact ⟨by show (0 : Int) ≤ 2 ∧ (2 : Int) ≤ 3; omega, h.place, hx, h.rc, hn⟩
    · split
      · exact ⟨by show (0 : Int) ≤ 3 ∧ (3 : Int) ≤ 3; omega, h.place, h.clock, h.rc, h.point⟩
      · exact h
theorem nm_le {K : Cf} (hK : K.Ok) (W : Nat) : -1 ≤ nm K W ∧ nm K W < (K.S : Int) := by
  have := hK.s1
  rcases nm_b K W with h | h
  · exact h
  · omega
theorem Nw.find_fit {n : Nw} {K : Cf} {B : Nat} (hK : K.Ok) (hB : 3 ≤ K.B) (h : n.Fit K B) {g : Gs} (hx : g.X.getD 0 0 < 18446744073709551616) (hn : -4611686018427387904 < g.k.now ∧ g.k.now < 4611686018427387904) : (n.find K B g).1.Fit K B := by
  unfold Nw.find
  split
  · rename_i hon
    obtain ⟨h1, h2⟩ := h.ok.sm hon
    exact ⟨⟨h.ok.field, h.ok.since, fun _ => ⟨h1, Sm.step_ok h2 hx hn⟩⟩, h.rc⟩
  · refine ⟨⟨h.ok.field, hn, fun ho => ?_⟩, nm_le hK _⟩
    have hne : ¬ nm K (g.X.getD n.field 0) = -1 := by simpa using ho
    obtain ⟨r, hr, hrS, _⟩ := nm_nat hne
    simp only [if_neg hne]
    refine ⟨by first | rfl | trivial, ⟨by show (0 : Int) ≤ 0 ∧ (0 : Int) ≤ 3; omega, ?_, by show 0 < _; omega, wf_rc hK (nm_le hK _), by show _ < (0 : Int) ∧ (0 : Int) < _; omega⟩⟩
    show K.bd (nm K (g.X.getD n.field 0)).toNat 1 < K.N
    rw [hr]
    exact K.bd_lt (by simpa using hrS) (by omega)

structure Rd.Ok (r : Rd) (K : Cf) (B : Nat) : Prop where
  n : r.n.Fit K B
  pc : r.pc = 0 ∨ r.pc = 1 ∧ 0 ≤ r.n.rc ∨ r.pc = 2
theorem Rd.step_ok {r : Rd} {K : Cf} {B : Nat} (hK : K.Ok) (hB : 3 ≤ K.B) (h : r.Ok K B) {g : Gs} (hx : g.X.getD 0 0 < 18446744073709551616) (hn : -4611686018427387904 < g.k.now ∧ g.k.now < 4611686018427387904) : (r.step K B g).1.Ok K B := by
  have hf := Nw.find_fit hK hB h.n hx hn
  unfold Rd.step
  split
  · split
    · rename_i hp _; exact ⟨hf, .inl hp⟩
    · split
      · exact ⟨hf, .inr (.inr rfl)⟩
      · rename_i hne
        exact ⟨hf, .inr (.inl ⟨rfl, by have := hf.rc; show 0 ≤ (r.n.find K B g).1.rc; omega⟩)⟩
  · split
    · exact ⟨h.n, .inr (.inr rfl)⟩
    · exact h

set_option maxHeartbeats 4000000 in
theorem rd_any {w : World} {lo M G B P : Nat} {g : Gs} {c : Array Value} {t : TypeId} {K : Cf} {r : Rd} (hK : K.Ok) (hB : 3 ≤ K.B) (is : InF w w lo M G B K.N g P c t) (hr : RdAt c B K r) (hk : r.Ok K B) (hT : g.T + 1 < 4611686018427387904) :
    Calls Tryz.prog 31 #[.pointer (some ⟨P, 0, none⟩), .pointer (some ⟨M, 0, none⟩)] w fun e w' => e = .returned (.bool (decide ((r.step K B g).1.pc = 2))) ∧ ∃ c', InF w w' lo M G B K.N (r.step K B g).2 P c' t ∧ RdAt c' B K (r.step K B g).1 := by
  have hf := (Nw.find_fit hK hB hk.n (is.gw.mem.fits 0) is.gw.now).rc
  have lb := is.cell hr.n.b
  have l21 := is.cell hr.pc
  have hd : decide ((r.step K B g).1.pc = 2) = ((r.step K B g).1.pc == 2) := by by_cases e : (r.step K B g).1.pc = 2 <;> simp [e]
  rw [hd]
  rcases hk.pc with h | ⟨h, h0⟩ | h
  · have ca := rfind_any hK hB is hr hk.n.ok hT h (wf_rc hK hf)
    rw [h] at l21
    generalize r.step K B g = rs at *
    clear hd hf hk hr is
    go_enter Tryz.func31, Tryz.ntmps31
    go_wp2_with (go_at_call 50; refine ca.mono ?_; rintro e w1 ⟨rfl, c1, i1, r1⟩; have m21 := i1.cell r1.pc)
    go_ret
    exact ⟨rfl, c1, i1, r1⟩
  · have hst : r.step K B g = (r.ended { g with T := g.T + 1 } (nm K (g.X.getD (K.bd r.n.rc.toNat 0) 0)), { g with T := g.T + 1 }) := by unfold Rd.step; rw [if_neg (by omega), if_pos h]
    obtain ⟨v, hv⟩ : ∃ v, g.X.getD (K.bd r.n.rc.toNat 0) 0 = v := ⟨_, rfl⟩
    rw [hst, hv]
    have hrb := hk.n.rc
    have cl := nloadSlot_any hK is hr.n hT (r := r.n.rc.toNat) (i := 0) (by omega) (by omega) (by omega) (iz := 0) rfl hv
    have ce : ∀ wr, InF w wr lo M G B K.N { g with T := g.T + 1 } P c t → Calls Tryz.prog 51 #[.pointer (some ⟨P, 0, none⟩), .int .i64 (nm K v)] wr fun e w' => e = .returned (.tuple #[]) ∧ ∃ c', InF w w' lo M G B K.N { g with T := g.T + 1 } P c' t ∧ RdAt c' B K (r.ended { g with T := g.T + 1 } (nm K v)) := fun wr x => (rend_any x.restart hr (wf_rc hK hrb) (nm K v)).mono fun e w' ⟨h1, c', h2, h3⟩ => ⟨h1, c', x.join h2, h3⟩
    have hp2 : (r.ended { g with T := g.T + 1 } (nm K v)).pc = 2 := rfl
    rw [hp2]
    rw [h] at l21
    generalize r.ended { g with T := g.T + 1 } (nm K v) = re at *
    generalize nm K v = z at *
    clear hd hf hk hst hv hrb h h0
    go_enter Tryz.func31, Tryz.ntmps31
    go_wp2_with (first
      | (go_at_call 52; refine cl.mono ?_; rintro e w1 ⟨rfl, i1⟩)
      | (go_at_call 51; refine (ce _ i1).mono ?_; rintro e w2 ⟨rfl, c2, i2, r2⟩; have m21 := i2.cell r2.pc; rw [hp2] at m21))
    go_ret
    exact ⟨rfl, c2, i2, r2⟩
  · have hst : r.step K B g = (r, g) := by unfold Rd.step; rw [if_neg (by omega), if_neg (by omega)]
    rw [hst, h]
    rw [h] at l21
    go_enter Tryz.func31, Tryz.ntmps31
    go_wp2
    go_ret
    exact ⟨rfl, c, is, hr⟩
theorem rd_nil (m : Value) (w : World) : Calls Tryz.prog 31 #[.pointer none, m] w fun e w' => e = .returned (.bool true) ∧ w = w' := by
  go_enter Tryz.func31, Tryz.ntmps31
  go_wp2
  go_ret
  exact ⟨rfl, rfl⟩
end Go.Proofs.YtnegdabcjnhpdaaGreatDoor
/- Contracts of package field's See. -/
namespace Go.Proofs.YtnegdabcjnhpdaaGreatDoor
open Go.RowKit
open Mm (IsMem MS touched Only)
open Hh (WT)

structure Se where
  val : Int
  n : Nw
  view : Nat
  pc : Int
structure SeAt (c : Array Value) (B : Nat) (K : Cf) (r : Se) : Prop where
  val : c[0]? = some (.int .i64 r.val)
  n : NwAt c 1 B K r.n
  view : c[19]? = some (.int .u64 (r.view : Nat))
  pc : c[20]? = some (.int .i64 r.pc)
theorem SeAt.find {c c' : Array Value} {B : Nat} {K : Cf} {r : Se} {n' : Nw} (h : SeAt c B K r) (hn : NwAt c' 1 B K n') (hs : Same c c' (1 + 8) (1 + 17)) : SeAt c' B K { r with n := n' } :=
  ⟨by rw [hs.out _ (by omega)]; exact h.val, hn, by rw [hs.out _ (by omega)]; exact h.view, by rw [hs.out _ (by omega)]; exact h.pc⟩
theorem SeAt.setpc {c : Array Value} {B : Nat} {K : Cf} {r : Se} (h : SeAt c B K r) (v : Int) : SeAt (c.setIfInBounds 20 (.int .i64 v)) B K { r with pc := v } :=
  ⟨by rw [get_set_ne (by omega)]; exact h.val, h.n.same fun i h1 h2 => by rw [get_set_ne (by omega)], by rw [get_set_ne (by omega)]; exact h.view, get_set (Array.getElem?_eq_some_iff.1 h.pc).1⟩
theorem SeAt.setval {c : Array Value} {B : Nat} {K : Cf} {r : Se} (h : SeAt c B K r) (v : Int) : SeAt (c.setIfInBounds 0 (.int .i64 v)) B K { r with val := v } :=
  ⟨get_set (Array.getElem?_eq_some_iff.1 h.val).1, h.n.same fun i h1 h2 => by rw [get_set_ne (by omega)], by rw [get_set_ne (by omega)]; exact h.view, by rw [get_set_ne (by omega)]; exact h.pc⟩
theorem SeAt.setrc {c : Array Value} {B : Nat} {K : Cf} {r : Se} (h : SeAt c B K r) (v : Int) : SeAt (c.setIfInBounds 11 (.int .i64 v)) B K { r with n := { r.n with rc := v } } := by
  have hz := h.n.size
  have gl : ∀ i, i ≠ 11 → (c.setIfInBounds 11 (.int .i64 v))[i]? = c[i]? := fun i hi => get_set_ne (Ne.symm hi)
  exact ⟨by rw [gl _ (by omega)]; exact h.val, ⟨by rw [gl _ (by omega)]; exact h.n.k0, by rw [gl _ (by omega)]; exact h.n.k1, by rw [gl _ (by omega)]; exact h.n.k2, by rw [gl _ (by omega)]; exact h.n.k3, by rw [gl _ (by omega)]; exact h.n.k4, by rw [gl _ (by omega)]; exact h.n.k5, by rw [gl _ (by omega)]; exact h.n.b, by rw [gl _ (by omega)]; exact h.n.field, by rw [gl _ (by omega)]; exact h.n.word, by rw [gl _ (by omega)]; exact h.n.since, get_set (by omega), by rw [gl _ (by omega)]; exact h.n.sb, by rw [gl _ (by omega)]; exact h.n.src, by rw [gl _ (by omega)]; exact h.n.spl, by rw [gl _ (by omega)]; exact h.n.spc, by rw [gl _ (by omega)]; exact h.n.sck, by rw [gl _ (by omega)]; exact h.n.spt, by rw [gl _ (by omega)]; exact h.n.on⟩, by rw [gl _ (by omega)]; exact h.view, by rw [gl _ (by omega)]; exact h.pc⟩

def Se.goOn (r : Se) : Se := { r with pc := if r.n.rc = -1 then 4 else 1 }
def Se.step (r : Se) (K : Cf) (B : Nat) (g : Gs) : Se × Gs :=
  if r.pc = 0 then
    if (r.n.find K B g).1.on = true then ({ r with n := (r.n.find K B g).1 }, (r.n.find K B g).2)
    else (Se.goOn { r with n := (r.n.find K B g).1 }, (r.n.find K B g).2)
  else if r.pc = 1 then ({ r with pc := if g.X.getD (K.bd r.n.rc.toNat 1) 0 ≤ r.view then 2 else 3 }, { g with T := g.T + 1 })
  else if r.pc = 2 then ({ r with val := nm K (g.X.getD (K.bd r.n.rc.toNat 0) 0), pc := 4 }, { g with T := g.T + 1 })
  else if r.pc = 3 then (Se.goOn { r with n := { r.n with rc := nm K (g.X.getD (K.bd r.n.rc.toNat 2) 0) } }, { g with T := g.T + 1 })
  else (r, g)
structure Se.Ok (r : Se) (K : Cf) (B : Nat) : Prop where
  n : r.n.Fit K B
  pc : r.pc = 0 ∨ (r.pc = 1 ∨ r.pc = 2 ∨ r.pc = 3) ∧ 0 ≤ r.n.rc ∨ r.pc = 4
theorem Se.goOn_ok {r : Se} {K : Cf} {B : Nat} (h : r.n.Fit K B) : r.goOn.Ok K B := by
  unfold Se.goOn
  refine ⟨h, ?_⟩
  show ((if r.n.rc = -1 then (4 : Int) else 1) = 0 ∨ _)
  split
  · exact .inr (.inr rfl)
  · exact .inr (.inl ⟨.inl rfl, by have := h.rc; show 0 ≤ r.n.rc; omega⟩)
theorem Se.step_ok {r : Se} {K : Cf} {B : Nat} (hK : K.Ok) (hB : 3 ≤ K.B) (h : r.Ok K B) {g : Gs} (hx : g.X.getD 0 0 < 18446744073709551616) (hn : -4611686018427387904 < g.k.now ∧ g.k.now < 4611686018427387904) : (r.step K B g).1.Ok K B := by
  have hf := Nw.find_fit hK hB h.n hx hn
  unfold Se.step
  split
  · split
    · rename_i hp _; exact ⟨hf, .inl hp⟩
    · exact Se.goOn_ok hf
  · rename_i h0
    split
    · rename_i h1
      refine ⟨h.n, .inr (.inl ⟨?_, ?_⟩)⟩
      · show (if _ then (2 : Int) else 3) = 1 ∨ (if _ then (2 : Int) else 3) = 2 ∨ (if _ then (2 : Int) else 3) = 3
        split <;> simp
      · rcases h.pc with h2 | h2 | h2
        · omega
        · exact h2.2
        · omega
    · split
      · exact ⟨h.n, .inr (.inr rfl)⟩
      · split
        · exact Se.goOn_ok ⟨⟨h.n.ok.field, h.n.ok.since, h.n.ok.sm⟩, nm_le hK _⟩
        · exact h

set_option maxHeartbeats 1000000 in
theorem goOn_any {w : World} {lo M G B P N : Nat} {g : Gs} {c : Array Value} {t : TypeId} {K : Cf} {r : Se} (is : InF w w lo M G B N g P c t) (hr : SeAt c B K r) :
    Calls Tryz.prog 73 #[.pointer (some ⟨P, 0, none⟩)] w fun e w' => e = .returned (.tuple #[]) ∧ ∃ c', InF w w' lo M G B N g P c' t ∧ SeAt c' B K r.goOn := by
  have l20 := is.cell hr.pc
  have f20 := is.free 20
  have i1 := is.set 20 (.int .i64 1)
  have r1 := hr.setpc 1
  by_cases h : r.n.rc = -1
  · have e : r.goOn = { r with pc := 4 } := by unfold Se.goOn; rw [if_pos h]
    rw [e]
    go_enter Tryz.func73, Tryz.ntmps73
    go_upto_region 1 with fail
    clear l20 f20 is hr e
    generalize w.setCell ⟨P, 20, none⟩ (.int .i64 1) = w1 at *
    have l11 := i1.cell r1.n.rc
    simp only [h] at l11
    have l20 := i1.cell r1.pc
    have f20 := i1.free 20
    have i2 := i1.set 20 (.int .i64 4)
    have r2 := r1.setpc 4
    go_wp2
    go_end0
    exact ⟨rfl, _, i2, r2⟩
  · have e : r.goOn = { r with pc := 1 } := by unfold Se.goOn; rw [if_neg h]
    rw [e]
    have hne : (r.n.rc == -1) = false := by simpa using h
    go_enter Tryz.func73, Tryz.ntmps73
    go_upto_region 1 with fail
    clear l20 f20 is hr e
    generalize w.setCell ⟨P, 20, none⟩ (.int .i64 1) = w1 at *
    have l11 := i1.cell r1.n.rc
    simp only at l11
    go_wp2
    go_end0
    exact ⟨rfl, _, i1, r1⟩

set_option maxHeartbeats 2000000 in
theorem seStamp_any {w : World} {lo M G B P : Nat} {g : Gs} {c : Array Value} {t : TypeId} {K : Cf} {r : Se} (hK : K.Ok) (hB : 3 ≤ K.B) (is : InF w w lo M G B K.N g P c t) (hr : SeAt c B K r) (hk : r.n.Fit K B) (h0 : 0 ≤ r.n.rc) (hT : g.T + 1 < 4611686018427387904) :
    Calls Tryz.prog 74 #[.pointer (some ⟨P, 0, none⟩), .pointer (some ⟨M, 0, none⟩)] w fun e w' => e = .returned (.tuple #[]) ∧ ∃ c', InF w w' lo M G B K.N { g with T := g.T + 1 } P c' t ∧ SeAt c' B K { r with pc := if g.X.getD (K.bd r.n.rc.toNat 1) 0 ≤ r.view then 2 else 3 } := by
  have l20 := is.cell hr.pc
  have f20 := is.free 20
  have i1 := is.set 20 (.int .i64 3)
  have r1 := hr.setpc 3
  have hrb := hk.rc
  obtain ⟨v, hv⟩ : ∃ v, g.X.getD (K.bd r.n.rc.toNat 1) 0 = v := ⟨_, rfl⟩
  rw [hv]
  obtain ⟨z, hz⟩ : ∃ z : Int, (if v ≤ r.view then 2 else 3) = z := ⟨_, rfl⟩
  rw [hz]
  go_enter Tryz.func74, Tryz.ntmps74
  go_upto_region 1 with fail
  clear l20 f20 is hr
  generalize w.setCell ⟨P, 20, none⟩ (.int .i64 3) = w1 at *
  generalize c.setIfInBounds 20 (.int .i64 3) = c1 at *
  have cl : ∀ wr, InF w wr lo M G B K.N g P c1 t → Calls Tryz.prog 72 #[.pointer (some ⟨P, 1, none⟩), .pointer (some ⟨M, 0, none⟩), .int .i64 1] wr fun e w' => e = .returned (.int .u64 (v : Nat)) ∧ InF w w' lo M G B K.N { g with T := g.T + 1 } P c1 t := fun wr x => (nload_any hK x.restart r1.n hT (r := r.n.rc.toNat) (i := 1) (by show ((r.n.rc.toNat : Nat) : Int) = r.n.rc; omega) (by omega) (by omega) (iz := 1) rfl hv).mono fun e w' ⟨h1, h2⟩ => ⟨h1, x.join h2⟩
  have h19 := r1.view
  simp only at h19
  obtain ⟨vw, hvw⟩ : ∃ vw, r.view = vw := ⟨_, rfl⟩
  rw [hvw] at hz h19
  have HV : Hid (r.view = vw) := hvw
  clear hvw
  replace i1 := i1.drew
  go_region_held (fun wr => wr.cell? ⟨P, 19, none⟩ = some (.int .u64 (vw : Nat))) (first | (with_reducible exact i1.cell h19) | (with_reducible exact i2.cell h19)) (first
    | (go_at_call 72; with_reducible refine (cl _ i1).mono ?_; rintro e w2 ⟨rfl, i2⟩))
  rename_i hHeld
  clear hHeld cl i1
  by_cases h : v ≤ vw
  · obtain rfl : z = 2 := by rw [← hz, if_pos h]
    have hvi : (v : Int) ≤ (vw : Int) := by omega
    have l20 := i2.cell r1.pc
    have f20 := i2.free 20
    have i3 := i2.set 20 (.int .i64 2)
    have r3 := r1.setpc 2
    go_wp2
    go_end0
    exact ⟨rfl, _, i3, r3⟩
  · obtain rfl : z = 3 := by rw [← hz, if_neg h]
    have hvi : ¬ (v : Int) ≤ (vw : Int) := by omega
    go_wp2
    go_end0
    exact ⟨rfl, _, i2, r1⟩

set_option maxHeartbeats 4000000 in
theorem se_any {w : World} {lo M G B P : Nat} {g : Gs} {c : Array Value} {t : TypeId} {K : Cf} {r : Se} (hK : K.Ok) (hB : 3 ≤ K.B) (is : InF w w lo M G B K.N g P c t) (hr : SeAt c B K r) (hk : r.Ok K B) (hT : g.T + 1 < 4611686018427387904) :
    Calls Tryz.prog 53 #[.pointer (some ⟨P, 0, none⟩), .pointer (some ⟨M, 0, none⟩)] w fun e w' => e = .returned (.bool (decide ((r.step K B g).1.pc = 4))) ∧ ∃ c', InF w w' lo M G B K.N (r.step K B g).2 P c' t ∧ SeAt c' B K (r.step K B g).1 := by
  have lb := is.cell hr.n.b
  have l20 := is.cell hr.pc
  have hd : decide ((r.step K B g).1.pc = 4) = ((r.step K B g).1.pc == 4) := by by_cases e : (r.step K B g).1.pc = 4 <;> simp [e]
  rw [hd]
  clear hd
  have hrb := hk.n.rc
  rcases hk.pc with h | ⟨h1 | h1 | h1, h0⟩ | h
  · have cf := find_any hK hB is hr.n hk.n.ok hT
    obtain ⟨n', g', hnf⟩ : ∃ n' g', r.n.find K B g = (n', g') := ⟨_, _, rfl⟩
    have hst : r.step K B g = if n'.on = true then ({ r with n := n' }, g') else (Se.goOn { r with n := n' }, g') := by unfold Se.step; rw [if_pos h, hnf]
    rw [hst]
    rw [hnf] at cf
    simp only at cf
    rw [h] at l20
    cases hon : n'.on
    · rw [hon] at cf
      simp only [Bool.not_false] at cf
      simp only [Bool.false_eq_true, if_false]
      have cg : ∀ wr c1, InF w wr lo M G B K.N g' P c1 t → SeAt c1 B K { r with n := n' } → Calls Tryz.prog 73 #[.pointer (some ⟨P, 0, none⟩)] wr fun e w' => e = .returned (.tuple #[]) ∧ ∃ c', InF w w' lo M G B K.N g' P c' t ∧ SeAt c' B K (Se.goOn { r with n := n' }) := fun wr c1 x hx => (goOn_any x.restart hx).mono fun e w' ⟨h1, c', h2, h3⟩ => ⟨h1, c', x.join h2, h3⟩
      generalize Se.goOn { r with n := n' } = rg at *
      clear hst hnf hk h
      go_enter Tryz.func53, Tryz.ntmps53
      go_wp2_with (first
        | (go_at_call 69; refine cf.mono ?_; rintro e w1 ⟨rfl, c1, i1, h1, s1⟩; have r1 := hr.find h1 s1)
        | (go_at_call 73; refine (cg _ _ i1 r1).mono ?_; rintro e w2 ⟨rfl, c2, i2, r2⟩; have m20 := i2.cell r2.pc))
      go_ret
      exact ⟨rfl, c2, i2, r2⟩
    · rw [hon] at cf
      simp only [Bool.not_true] at cf
      rw [if_pos rfl]
      clear hst hnf
      go_enter Tryz.func53, Tryz.ntmps53
      go_wp2_with (go_at_call 69; refine cf.mono ?_; rintro e w1 ⟨rfl, c1, i1, h1, s1⟩; have r1 := hr.find h1 s1; have m20 := i1.cell r1.pc; simp only [h] at m20)
      go_ret
      exact ⟨by simp only [h]; rfl, c1, i1, r1⟩
  · have cs := seStamp_any hK hB is hr hk.n h0 hT
    have hst : r.step K B g = ({ r with pc := if g.X.getD (K.bd r.n.rc.toNat 1) 0 ≤ r.view then 2 else 3 }, { g with T := g.T + 1 }) := by unfold Se.step; rw [if_neg (by omega), if_pos h1]
    rw [hst]
    rw [h1] at l20
    generalize ({ r with pc := if g.X.getD (K.bd r.n.rc.toNat 1) 0 ≤ r.view then 2 else 3 } : Se) = rg at *
    clear hst hk h0 h1
    go_enter Tryz.func53, Tryz.ntmps53
    go_wp2_with (go_at_call 74; refine cs.mono ?_; rintro e w2 ⟨rfl, c2, i2, r2⟩; have m20 := i2.cell r2.pc)
    go_ret
    exact ⟨rfl, c2, i2, r2⟩
  · obtain ⟨v, hv⟩ : ∃ v, g.X.getD (K.bd r.n.rc.toNat 0) 0 = v := ⟨_, rfl⟩
    have hst : r.step K B g = ({ r with val := nm K v, pc := 4 }, { g with T := g.T + 1 }) := by unfold Se.step; rw [if_neg (by omega), if_neg (by omega), if_pos h1, hv]
    rw [hst]
    rw [h1] at l20
    have cl := nloadSlot_any hK is hr.n hT (r := r.n.rc.toNat) (i := 0) (by omega) (by omega) (by omega) (iz := 0) rfl hv
    generalize nm K v = z at *
    clear hst hv
    go_enter Tryz.func53, Tryz.ntmps53
    go_upto_region 11 with (go_at_call 52; refine cl.mono ?_; rintro e w1 ⟨rfl, i1⟩; have m0 := i1.cell hr.val; have f0 := i1.free 0)
    have i2 := i1.set 0 (.int .i64 z)
    have r2 := hr.setval z
    clear m0 f0 i1
    generalize w1.setCell ⟨P, 0, none⟩ (.int .i64 z) = w2 at *
    have m20 := i2.cell r2.pc
    have f20 := i2.free 20
    have i3 := i2.set 20 (.int .i64 4)
    have r3 := r2.setpc 4
    go_upto_region 15 with fail
    clear m20 f20 i2 r2
    generalize w2.setCell ⟨P, 20, none⟩ (.int .i64 4) = w3 at *
    have m20 := i3.cell r3.pc
    simp only at m20
    go_wp2
    go_ret
    exact ⟨rfl, _, i3, r3⟩
  · obtain ⟨v, hv⟩ : ∃ v, g.X.getD (K.bd r.n.rc.toNat 2) 0 = v := ⟨_, rfl⟩
    have hst : r.step K B g = (Se.goOn { r with n := { r.n with rc := nm K v } }, { g with T := g.T + 1 }) := by unfold Se.step; rw [if_neg (by omega), if_neg (by omega), if_neg (by omega), if_pos h1, hv]
    rw [hst]
    rw [h1] at l20
    have cl := nloadSlot_any hK is hr.n hT (r := r.n.rc.toNat) (i := 2) (by omega) (by omega) (by omega) (iz := 2) rfl hv
    generalize nm K v = z at *
    have cg : ∀ wr c1, InF w wr lo M G B K.N { g with T := g.T + 1 } P c1 t → SeAt c1 B K { r with n := { r.n with rc := z } } → Calls Tryz.prog 73 #[.pointer (some ⟨P, 0, none⟩)] wr fun e w' => e = .returned (.tuple #[]) ∧ ∃ c', InF w w' lo M G B K.N { g with T := g.T + 1 } P c' t ∧ SeAt c' B K (Se.goOn { r with n := { r.n with rc := z } }) := fun wr c1 x hx => (goOn_any x.restart hx).mono fun e w' ⟨h1, c', h2, h3⟩ => ⟨h1, c', x.join h2, h3⟩
    generalize Se.goOn { r with n := { r.n with rc := z } } = rg at *
    clear hst hv
    go_enter Tryz.func53, Tryz.ntmps53
    go_upto_region 14 with (go_at_call 52; refine cl.mono ?_; rintro e w1 ⟨rfl, i1⟩; have m11 := i1.cell hr.n.rc; have f11 := i1.free 11)
    have i2 := i1.set 11 (.int .i64 z)
    have r2 := hr.setrc z
    clear m11 f11 i1
    generalize w1.setCell ⟨P, 11, none⟩ (.int .i64 z) = w2 at *
    go_wp2_with (go_at_call 73; refine (cg _ _ i2 r2).mono ?_; rintro e w3 ⟨rfl, c3, i3, r3⟩; have m20 := i3.cell r3.pc)
    go_ret
    exact ⟨rfl, c3, i3, r3⟩
  · have hst : r.step K B g = (r, g) := by unfold Se.step; rw [if_neg (by omega), if_neg (by omega), if_neg (by omega), if_neg (by omega)]
    rw [hst, h]
    rw [h] at l20
    go_enter Tryz.func53, Tryz.ntmps53
    go_wp2
    go_ret
    exact ⟨rfl, c, is, hr⟩
theorem se_nil (m : Value) (w : World) : Calls Tryz.prog 53 #[.pointer none, m] w fun e w' => e = .returned (.bool true) ∧ w = w' := by
  go_enter Tryz.func53, Tryz.ntmps53
  go_wp2
  go_ret
  exact ⟨rfl, rfl⟩
end Go.Proofs.YtnegdabcjnhpdaaGreatDoor
