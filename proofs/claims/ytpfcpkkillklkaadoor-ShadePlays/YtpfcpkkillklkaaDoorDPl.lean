/- All that shade at once: what holds behind each step. -/
import Derived.Test.YtpfcpkkillklkaaDoorDFill
namespace Go.Proofs.YtpfcpkkillklkaaDoor
open Go.RowKit
open Mm (IsMem IsWords MS zeroMS)
open Hh (WT okW whiteH wordOf Hr blackN usedK)

/-! Counting. -/
def cN (p : Nat → Bool) : Nat → Nat
  | 0 => 0
  | n + 1 => cN p n + (p n).toNat
theorem cN_congr {p q : Nat → Bool} : ∀ {n : Nat}, (∀ i, i < n → p i = q i) → cN p n = cN q n
  | 0, _ => rfl
  | n + 1, h => by
    show cN p n + (p n).toNat = cN q n + (q n).toNat
    rw [cN_congr (n := n) fun i hi => h i (by omega), h n (by omega)]
theorem cN_upd {p q : Nat → Bool} {k : Nat} (h : ∀ i, i ≠ k → p i = q i) : ∀ {n : Nat}, k < n → cN p n + (q k).toNat = cN q n + (p k).toNat
  | 0, hk => by omega
  | n + 1, hk => by
    show cN p n + (p n).toNat + (q k).toNat = cN q n + (q n).toNat + (p k).toNat
    by_cases hn : k < n
    · have := cN_upd h hn
      rw [h n (by omega)]
      omega
    · have e : k = n := by omega
      subst e
      rw [cN_congr (p := p) (q := q) (n := k) fun i hi => h i (by omega)]
      omega
theorem cN_le (p : Nat → Bool) : ∀ n, cN p n ≤ n
  | 0 => Nat.le_refl _
  | n + 1 => by
    have := cN_le p n
    have h : (p n).toNat ≤ 1 := by cases p n <;> decide
    show cN p n + (p n).toNat ≤ n + 1
    omega
theorem cN_zero {p : Nat → Bool} : ∀ {n : Nat}, (∀ i, i < n → p i = false) → cN p n = 0
  | 0, _ => rfl
  | n + 1, h => by
    show cN p n + (p n).toNat = 0
    rw [cN_zero (n := n) fun i hi => h i (by omega), h n (by omega)]
    rfl
theorem cN_pos {p : Nat → Bool} {k n : Nat} (hk : k < n) (h : p k = true) : 1 ≤ cN p n := by
  have e := cN_upd (p := p) (q := fun i => if i = k then false else p i) (k := k) (fun i hi => by simp [hi]) hk
  simp [h] at e
  omega

/-- A machine under way. -/
structure Sh where
  P : Nat
  k : Nat
  gw : Bool
  pc : Nat
  was : Nat
  nw : Nat
def updS (ms : Nat → Sh) (i : Nat) (m : Sh) : Nat → Sh := fun j => if j = i then m else ms j
theorem updS_same (ms : Nat → Sh) (i : Nat) (m : Sh) : updS ms i m i = m := if_pos rfl
theorem updS_other (ms : Nat → Sh) {i j : Nat} (h : j ≠ i) (m : Sh) : updS ms i m j = ms j := if_neg h
def fly (m : Sh) : Bool := m.pc == 2 || m.pc == 3

/-- A slot's header. -/
def Cf.hw (K : Cf) (X : List Nat) (s : Nat) : Nat := X.getD (K.hd s) 0
theorem grN_cN (K : Cf) (X : List Nat) : ∀ n, grN K X n = cN (fun s => grayW (K.hw X s)) n
  | 0 => rfl
  | n + 1 => by
    show grN K X n + (if grayW (X.getD (K.hd n) 0) then 1 else 0) = cN _ n + (grayW (K.hw X n)).toNat
    rw [grN_cN K X n]
    unfold Cf.hw
    cases grayW (X.getD (K.hd n) 0) <;> rfl

structure MOk (K : Cf) (e : Nat) (Y X : List Nat) (m : Sh) : Prop where
  k : m.k < K.S
  pc : m.pc = 0 ∨ m.pc = 1 ∨ m.pc = 2 ∨ m.pc = 3 ∨ m.pc = 4
  up : m.pc = 1 ∨ m.pc = 2 → m.was = K.hw Y m.k ∧ m.nw = shN (K.hw Y m.k) e ∧ canS (K.hw Y m.k) e = true
  gw : m.gw = true → m.pc = 4 ∧ K.hw X m.k ≠ K.hw Y m.k
  fin : m.pc = 4 → canS (K.hw X m.k) e = false

structure Inv (K : Cf) (e n : Nat) (Y X : List Nat) (ms : Nat → Sh) : Prop where
  len : X.length = K.N
  fits : ∀ i, Y.getD i 0 < 18446744073709551616
  orig : ∀ s, s < K.S → grayW (K.hw Y s) = true → canS (K.hw Y s) e = false
  head : ∀ s, s < K.S → K.hw X s = K.hw Y s ∨ (canS (K.hw Y s) e = true ∧ K.hw X s = shN (K.hw Y s) e ∧ ∃ i, i < n ∧ (ms i).k = s)
  mach : ∀ i, i < n → MOk K e Y X (ms i)
  gray : X.getD 2 0 = cN (fun s => grayW (K.hw X s)) K.S + cN (fun i => fly (ms i)) n
  grew : cN (fun i => (ms i).gw) n = cN (fun s => decide (K.hw X s ≠ K.hw Y s)) K.S

theorem hw_set2 (K : Cf) (X : List Nat) (v s : Nat) : K.hw (X.set 2 v) s = K.hw X s := by
  unfold Cf.hw
  rw [getD_set, if_neg (by have := K.hd_4 s; omega)]
theorem hw_set (K : Cf) {X : List Nat} {k : Nat} (v s : Nat) (hk : K.hd k < X.length) : K.hw (X.set (K.hd k) v) s = if s = k then v else K.hw X s := by
  unfold Cf.hw
  rw [getD_set]
  by_cases h : s = k
  · subst h; simp [hk]
  · rw [if_neg h, if_neg fun h' => h (K.hd_inj h'.1).symm]

/-- What can still be shaded is as it was. -/
theorem Inv.white {K : Cf} {e n : Nat} {Y X : List Nat} {ms : Nat → Sh} (h : Inv K e n Y X ms) {s : Nat} (hs : s < K.S) (hc : canS (K.hw X s) e = true) : K.hw X s = K.hw Y s := by
  rcases h.head s hs with h1 | ⟨h1, h2, _⟩
  · exact h1
  · have := (sh_facts (h.fits (K.hd s)) h1).2.2.1
    rw [h2] at hc
    rw [show shN (K.hw Y s) e = shN (Y.getD (K.hd s) 0) e from rfl, this] at hc
    cases hc

theorem MOk.same {K : Cf} {e : Nat} {Y X X' : List Nat} {m : Sh} (h : MOk K e Y X m) (hx : ∀ s, K.hw X' s = K.hw X s) : MOk K e Y X' m :=
  ⟨h.k, h.pc, h.up, fun hg => by rw [hx]; exact h.gw hg, fun hp => by rw [hx]; exact h.fin hp⟩

/-- One goes on, and no header turns. -/
theorem Inv.upd {K : Cf} {e n : Nat} {Y X : List Nat} {ms : Nat → Sh} (h : Inv K e n Y X ms) {i : Nat} (hi : i < n) {X' : List Nat} {m' : Sh} (hl : X'.length = X.length) (hx : ∀ s, K.hw X' s = K.hw X s) (hm : MOk K e Y X m') (hk : m'.k = (ms i).k) (hg : m'.gw = (ms i).gw)
    (h2 : X'.getD 2 0 + (fly (ms i)).toNat = X.getD 2 0 + (fly m').toNat) : Inv K e n Y X' (updS ms i m') := by
  have ho : ∀ j, j ≠ i → updS ms i m' j = ms j := fun j hj => updS_other ms hj m'
  refine ⟨hl.trans h.len, h.fits, h.orig, fun s hs => ?_, fun j hj => ?_, ?_, ?_⟩
  · rw [hx]
    rcases h.head s hs with h1 | ⟨h1, h3, j, hj, hj2⟩
    · exact .inl h1
    · refine .inr ⟨h1, h3, j, hj, ?_⟩
      by_cases hji : j = i
      · subst hji; rw [updS_same, hk]; exact hj2
      · rw [ho j hji]; exact hj2
  · by_cases hji : j = i
    · subst hji; rw [updS_same]; exact hm.same hx
    · rw [ho j hji]; exact (h.mach j hj).same hx
  · have e1 := cN_upd (p := fun j => fly (updS ms i m' j)) (q := fun j => fly (ms j)) (k := i) (fun j hj => by simp only [ho j hj]) hi
    simp only [updS_same] at e1
    have e2 : cN (fun s => grayW (K.hw X' s)) K.S = cN (fun s => grayW (K.hw X s)) K.S := cN_congr fun s _ => by rw [hx]
    have := h.gray
    omega
  · have e1 : cN (fun j => (updS ms i m' j).gw) n = cN (fun j => (ms j).gw) n := cN_congr fun j _ => by
      by_cases hji : j = i
      · subst hji; rw [updS_same, hg]
      · rw [ho j hji]
    have e2 : cN (fun s => decide (K.hw X' s ≠ K.hw Y s)) K.S = cN (fun s => decide (K.hw X s ≠ K.hw Y s)) K.S := cN_congr fun s _ => by rw [hx]
    rw [e1, e2]
    exact h.grew

theorem Inv.x2 {K : Cf} {e n : Nat} {Y X : List Nat} {ms : Nat → Sh} (h : Inv K e n Y X ms) : X.getD 2 0 ≤ K.S + n := by
  have := h.gray
  have := cN_le (fun s => grayW (K.hw X s)) K.S
  have := cN_le (fun i => fly (ms i)) n
  omega

theorem Inv.s0y {K : Cf} {e n : Nat} {Y X : List Nat} {ms : Nat → Sh} (h : Inv K e n Y X ms) {i : Nat} (hi : i < n) (hp : (ms i).pc = 0) (hc : canS (K.hw X (ms i).k) e = true) :
    Inv K e n Y X (updS ms i ⟨(ms i).P, (ms i).k, (ms i).gw, 1, K.hw X (ms i).k, shN (K.hw X (ms i).k) e⟩) := by
  have hm := h.mach i hi
  have hw := h.white hm.k hc
  refine h.upd hi rfl (fun _ => rfl) ⟨hm.k, by simp, fun _ => ⟨hw, by simp only [hw], by simp only [← hw]; exact hc⟩, fun hg => ?_, fun hp => by simp at hp⟩ rfl rfl ?_
  · have := (hm.gw hg).1; omega
  · simp [fly, hp]
theorem Inv.s0n {K : Cf} {e n : Nat} {Y X : List Nat} {ms : Nat → Sh} (h : Inv K e n Y X ms) {i : Nat} (hi : i < n) (hp : (ms i).pc = 0) (hc : canS (K.hw X (ms i).k) e = false) (a b : Nat) :
    Inv K e n Y X (updS ms i ⟨(ms i).P, (ms i).k, (ms i).gw, 4, a, b⟩) := by
  have hm := h.mach i hi
  refine h.upd hi rfl (fun _ => rfl) ⟨hm.k, by simp, fun h => by simp at h, fun hg => ?_, fun _ => hc⟩ rfl rfl ?_
  · have := (hm.gw hg).1; omega
  · simp [fly, hp]
theorem Inv.s1 {K : Cf} {e n : Nat} {Y X : List Nat} {ms : Nat → Sh} (h : Inv K e n Y X ms) {i : Nat} (hi : i < n) (hp : (ms i).pc = 1) (hN : 2 < K.N) (hb : K.S + n < 1000000) :
    Inv K e n Y (X.set 2 (Mm.sumW (X.getD 2 0) 1)) (updS ms i ⟨(ms i).P, (ms i).k, (ms i).gw, 2, (ms i).was, (ms i).nw⟩) := by
  have hm := h.mach i hi
  have h2 := h.x2
  refine h.upd hi (by simp) (hw_set2 K X _) ⟨hm.k, by simp, fun _ => hm.up (.inl hp), fun hg => ?_, fun h => by simp at h⟩ rfl rfl ?_
  · have := (hm.gw hg).1; omega
  · rw [getD_set, if_pos ⟨rfl, by rw [h.len]; omega⟩]
    clear hN
    generalize X.getD 2 0 = v at *
    simp [fly, hp, Mm.sumW]
    omega
theorem Inv.s2n {K : Cf} {e n : Nat} {Y X : List Nat} {ms : Nat → Sh} (h : Inv K e n Y X ms) {i : Nat} (hi : i < n) (hp : (ms i).pc = 2) :
    Inv K e n Y X (updS ms i ⟨(ms i).P, (ms i).k, (ms i).gw, 3, (ms i).was, (ms i).nw⟩) := by
  have hm := h.mach i hi
  refine h.upd hi rfl (fun _ => rfl) ⟨hm.k, by simp, fun h => by simp at h, fun hg => ?_, fun h => by simp at h⟩ rfl rfl ?_
  · have := (hm.gw hg).1; omega
  · simp [fly, hp]
theorem Inv.s3 {K : Cf} {e n : Nat} {Y X : List Nat} {ms : Nat → Sh} (h : Inv K e n Y X ms) {i : Nat} (hi : i < n) (hp : (ms i).pc = 3) (hN : 2 < K.N) (hb : K.S + n < 1000000) :
    Inv K e n Y (X.set 2 (Mm.sumW (X.getD 2 0) 18446744073709551615)) (updS ms i ⟨(ms i).P, (ms i).k, (ms i).gw, 0, (ms i).was, (ms i).nw⟩) := by
  have hm := h.mach i hi
  have h2 := h.x2
  have hf : 1 ≤ cN (fun j => fly (ms j)) n := cN_pos hi (by simp [fly, hp])
  have hgr := h.gray
  refine h.upd hi (by simp) (hw_set2 K X _) ⟨hm.k, by simp, fun h => by simp at h, fun hg => ?_, fun h => by simp at h⟩ rfl rfl ?_
  · have := (hm.gw hg).1; omega
  · rw [getD_set, if_pos ⟨rfl, by rw [h.len]; omega⟩]
    clear hN
    generalize X.getD 2 0 = v at *
    simp [fly, hp, Mm.sumW]
    omega
theorem Inv.s2y {K : Cf} {e n : Nat} {Y X : List Nat} {ms : Nat → Sh} (h : Inv K e n Y X ms) {i : Nat} (hi : i < n) (hp : (ms i).pc = 2) (hw : K.hw X (ms i).k = (ms i).was) :
    Inv K e n Y (X.set (K.hd (ms i).k) (ms i).nw) (updS ms i ⟨(ms i).P, (ms i).k, true, 4, (ms i).was, (ms i).nw⟩) := by
  have hm := h.mach i hi
  obtain ⟨u1, u2, u3⟩ := hm.up (.inr hp)
  have hk := hm.k
  have hg0 : (ms i).gw = false := by
    cases hg : (ms i).gw
    · rfl
    · have := (hm.gw hg).1; omega
  obtain ⟨f1, f2, f3, f4, f5⟩ := sh_facts (h.fits (K.hd (ms i).k)) u3
  have f3' : canS (shN (K.hw Y (ms i).k) e) e = false := f3
  have f4' : grayW (shN (K.hw Y (ms i).k) e) = true := f4
  have f5' : shN (K.hw Y (ms i).k) e ≠ K.hw Y (ms i).k := f5
  have ho : ∀ j, j ≠ i → updS ms i ⟨(ms i).P, (ms i).k, true, 4, (ms i).was, (ms i).nw⟩ j = ms j := fun j hj => updS_other ms hj _
  have hlt : K.hd (ms i).k < X.length := by rw [h.len]; exact K.hd_lt hk
  have hx : ∀ s, K.hw (X.set (K.hd (ms i).k) (ms i).nw) s = if s = (ms i).k then shN (K.hw Y (ms i).k) e else K.hw X s := fun s => by rw [hw_set K _ s hlt, u2]
  have hold : K.hw X (ms i).k = K.hw Y (ms i).k := hw.trans u1
  refine ⟨by simp [h.len], h.fits, h.orig, fun s hs => ?_, fun j hj => ?_, ?_, ?_⟩
  · rw [hx]
    by_cases hsk : s = (ms i).k
    · rw [if_pos hsk]
      subst hsk
      exact .inr ⟨u3, rfl, i, hi, by rw [updS_same]⟩
    · rw [if_neg hsk]
      rcases h.head s hs with h1 | ⟨h1, h3, j, hj, hj2⟩
      · exact .inl h1
      · refine .inr ⟨h1, h3, j, hj, ?_⟩
        by_cases hji : j = i
        · subst hji; rw [updS_same]; exact hj2
        · rw [ho j hji]; exact hj2
  · by_cases hji : j = i
    · subst hji
      rw [updS_same]
      refine ⟨hk, by simp, fun h => by simp at h, fun _ => ⟨rfl, ?_⟩, fun _ => ?_⟩
      · show K.hw _ (ms j).k ≠ _
        rw [hx, if_pos rfl]; exact f5'
      · show canS (K.hw _ (ms j).k) e = false
        rw [hx, if_pos rfl]; exact f3'
    · rw [ho j hji]
      have hmj := h.mach j hj
      refine ⟨hmj.k, hmj.pc, hmj.up, fun hg => ⟨(hmj.gw hg).1, ?_⟩, fun hp => ?_⟩
      · rw [hx]
        by_cases hsk : (ms j).k = (ms i).k
        · rw [if_pos hsk, hsk]; exact f5'
        · rw [if_neg hsk]; exact (hmj.gw hg).2
      · rw [hx]
        by_cases hsk : (ms j).k = (ms i).k
        · rw [if_pos hsk]; exact f3'
        · rw [if_neg hsk]; exact hmj.fin hp
  · have e1 := cN_upd (p := fun j => fly (updS ms i ⟨(ms i).P, (ms i).k, true, 4, (ms i).was, (ms i).nw⟩ j)) (q := fun j => fly (ms j)) (k := i) (fun j hj => by simp only [ho j hj]) hi
    simp only [updS_same] at e1
    have e2 := cN_upd (p := fun s => grayW (K.hw (X.set (K.hd (ms i).k) (ms i).nw) s)) (q := fun s => grayW (K.hw X s)) (k := (ms i).k) (fun s hs => by simp only [hx, if_neg hs]) hk
    simp only [hx, if_pos] at e2
    have hg1 : grayW (K.hw X (ms i).k) = false := by
      rw [hold]
      cases hg : grayW (K.hw Y (ms i).k)
      · rfl
      · rw [h.orig _ hk hg] at u3; cases u3
    rw [hg1, f4'] at e2
    rw [getD_set, if_neg (by have := K.hd_4 (ms i).k; omega)]
    simp only [hx]
    simp [fly, hp] at e1
    simp at e2
    have := h.gray
    simp only [fly] at this ⊢
    omega
  · have e1 := cN_upd (p := fun j => (updS ms i ⟨(ms i).P, (ms i).k, true, 4, (ms i).was, (ms i).nw⟩ j).gw) (q := fun j => (ms j).gw) (k := i) (fun j hj => by simp only [ho j hj]) hi
    simp only [updS_same, hg0] at e1
    have e2 := cN_upd (p := fun s => decide (K.hw (X.set (K.hd (ms i).k) (ms i).nw) s ≠ K.hw Y s)) (q := fun s => decide (K.hw X s ≠ K.hw Y s)) (k := (ms i).k) (fun s hs => by simp only [hx, if_neg hs]) hk
    have d1 : decide (K.hw (X.set (K.hd (ms i).k) (ms i).nw) (ms i).k ≠ K.hw Y (ms i).k) = true := by
      rw [hx, if_pos rfl]
      exact decide_eq_true f5'
    have d2 : decide (K.hw X (ms i).k ≠ K.hw Y (ms i).k) = false := by rw [hold]; simp
    rw [d1, d2] at e2
    simp only [Bool.toNat_true, Bool.toNat_false] at e1 e2
    have := h.grew
    omega
end Go.Proofs.YtpfcpkkillklkaaDoor
