/- All that shade at once, as they lie in the heap: a step of one. -/
import Derived.Test.YtpfcpkkillklkaaDoorDPl
namespace Go.Proofs.YtpfcpkkillklkaaDoor
open Go.RowKit
open Mm (IsMem IsWords MS zeroMS)
open Hh (WT okW whiteH wordOf Hr blackN usedK)

/-- How many steps one alone has left. -/
def rkS (K : Cf) (e : Nat) (X : List Nat) (m : Sh) : Nat :=
  if m.pc = 4 then 0 else if canS (K.hw X m.k) e then (if m.pc = 0 then 3 else if m.pc = 1 then 2 else if m.pc = 2 then 1 else 4) else (if m.pc = 0 then 1 else if m.pc = 1 then 4 else if m.pc = 2 then 3 else 2)
theorem rkS_le (K : Cf) (e : Nat) (X : List Nat) (m : Sh) : rkS K e X m ≤ 4 := by
  unfold rkS
  repeat' split
  all_goals omega

structure Pl (w wr : World) (K : Cf) (e n M G L R : Nat) (Y X : List Nat) (T : Int) (kk : Nat → Nat) (ms : Nat → Sh) : Prop where
  ds : Ds w wr K M G X T
  inv : Inv K e n Y X ms
  shd : ∀ i, i < n → IsShd wr (ms i).P (ms i).gw ((K.hd (ms i).k : Nat) : Int) e ((ms i).pc : Nat) (ms i).was (ms i).nw
  far : ∀ i, i < n → (ms i).P ≠ M ∧ (ms i).P ≠ G ∧ (ms i).P ≠ L ∧ (ms i).P ≠ R ∧ w.heap.size + 1 ≤ (ms i).P
  apart : ∀ i j, i < n → j < n → i ≠ j → (ms i).P ≠ (ms j).P
  kk : ∀ i, i < n → (ms i).k = kk i
  row : ∀ i, i < n → wr.cell? ⟨L, i, none⟩ = some (.pointer (some ⟨(ms i).P, 0, none⟩))
  was : IsWords wr R Y
  lL : L < wr.heap.size
  nL : L ≠ M ∧ L ≠ G
  nR : R ≠ M ∧ R ≠ G

theorem Pl.below {w wr w' : World} {K : Cf} {e n M G L R : Nat} {Y X : List Nat} {T : Int} {kk : Nat → Nat} {ms : Nat → Sh} (h : Pl w wr K e n M G L R Y X T kk ms) (b : Below wr.heap.size wr w') : Pl w w' K e n M G L R Y X T kk ms :=
  ⟨h.ds.below b, h.inv, fun i hi => (h.shd i hi).below b, h.far, h.apart, h.kk, fun i hi => (World.cell?_of_block (w := wr) (w' := w') (a := ⟨L, i, none⟩) (b.block L h.lL)).trans (h.row i hi), words_below h.was b, Nat.lt_of_lt_of_le h.lL b.size, h.nL, h.nR⟩
theorem Pl.drew {w wr : World} {K : Cf} {e n M G L R : Nat} {Y X : List Nat} {T : Int} {kk : Nat → Nat} {ms : Nat → Sh} (h : Pl w wr K e n M G L R Y X T kk ms) : Pl w wr.drew K e n M G L R Y X T kk ms := h.below (Below.refl _ _).drew

theorem Pl.upd {w wr w' : World} {K : Cf} {e n M G L R : Nat} {Y X X' : List Nat} {T T' : Int} {kk : Nat → Nat} {ms : Nat → Sh} (h : Pl w wr K e n M G L R Y X T kk ms) {i : Nat} (hi : i < n) {gw : Bool} {pc was nw : Nat} (hm : MemX w' M G X' T') (hw : WT w')
    (hs : IsShd w' (ms i).P gw ((K.hd (ms i).k : Nat) : Int) e (pc : Nat) was nw) (c : Chg [(ms i).P, M, G] wr w') (hv : Inv K e n Y X' (updS ms i ⟨(ms i).P, (ms i).k, gw, pc, was, nw⟩)) : Pl w w' K e n M G L R Y X' T' kk (updS ms i ⟨(ms i).P, (ms i).k, gw, pc, was, nw⟩) := by
  have hf := h.far i hi
  have hnL := h.nL
  have hnR := h.nR
  have hP : ∀ j, (updS ms i ⟨(ms i).P, (ms i).k, gw, pc, was, nw⟩ j).P = (ms j).P := fun j => by
    by_cases hj : j = i
    · subst hj; rw [updS_same]
    · rw [updS_other _ hj]
  refine ⟨h.ds.chg c hf.2.2.2.2 hm hw, hv, fun j hj => ?_, fun j hj => by rw [hP]; exact h.far j hj, fun j k hj hk hjk => by rw [hP, hP]; exact h.apart j k hj hk hjk, fun j hj => ?_, fun j hj => ?_, c.at h.was (by simp; omega), Nat.lt_of_lt_of_le h.lL c.size, hnL, hnR⟩
  · by_cases hji : j = i
    · subst hji; rw [updS_same]; exact hs
    · rw [updS_other _ hji]
      have hfj := h.far j hj
      have := h.apart j i hj hi hji
      exact (h.shd j hj).chg c (by simp; omega)
  · by_cases hji : j = i
    · subst hji; rw [updS_same]; exact h.kk j hj
    · rw [updS_other _ hji]; exact h.kk j hj
  · rw [hP]
    exact (World.cell?_of_block (w := wr) (w' := w') (a := ⟨L, j, none⟩) (c.block L h.lL (by simp; omega))).trans (h.row j hj)

/-- One goes a step on, whatever it does. -/
theorem Pl.step {w wr : World} {K : Cf} (hK : K.Ok) {e n M G L R : Nat} {Y X : List Nat} {T : Int} {kk : Nat → Nat} {ms : Nat → Sh} (h : Pl w wr K e n M G L R Y X T kk ms) {i : Nat} (hi : i < n) (hn : n ≤ 10) (hT : 0 ≤ T ∧ T < 4611686018427387904) (he : e < 18446744073709551616) :
    ∃ b : Bool, Calls Tryd.prog 10 #[.pointer (some ⟨(ms i).P, 0, none⟩), .pointer (some ⟨M, 0, none⟩)] wr fun r w' => ∃ (X' : List Nat) (T' : Int) (m' : Sh), r = .returned (.bool b) ∧ Pl w w' K e n M G L R Y X' T' kk (updS ms i m') ∧ T ≤ T' ∧ T' ≤ T + 1 ∧ Hid (b = true ∧ m'.pc = 4 ∨ b = false ∧ rkS K e X' m' < rkS K e X (ms i)) := by
  have hm := h.inv.mach i hi
  have hf := h.far i hi
  have hs := h.shd i hi
  have hN := hK.N_b
  have hS := hK.s64
  have hl := h.inv.len
  have hlt : K.hd (ms i).k < X.length := by rw [hl]; exact K.hd_lt hm.k
  have h2 : 2 < X.length := by omega
  rcases hm.pc with hp | hp | hp | hp | hp
  · rw [hp] at hs
    cases hc : canS (K.hw X (ms i).k) e
    · refine ⟨true, (ds_0n h.ds.mem hs h.ds.wt hf.1 hf.2.1 hT hlt he rfl hc).mono fun r w' ⟨hr, hm', hp', hw', c⟩ => ⟨_, _, _, hr, h.upd hi hm' hw' hp' c (h.inv.s0n hi hp hc _ _), by omega, by omega, .inl ⟨rfl, rfl⟩⟩⟩
    · refine ⟨false, (ds_0y h.ds.mem hs h.ds.wt hf.1 hf.2.1 hT hlt he rfl hc).mono fun r w' ⟨hr, hm', hp', hw', c⟩ => ⟨_, _, _, hr, h.upd hi hm' hw' hp' c (h.inv.s0y hi hp hc), by omega, by omega, .inr ⟨rfl, ?_⟩⟩⟩
      simp [rkS, hp, hc]
  · rw [hp] at hs
    refine ⟨false, (ds_1 h.ds.mem hs h.ds.wt hf.1 hf.2.1 hT h2 rfl).mono fun r w' ⟨hr, hm', hp', hw', c⟩ => ⟨_, _, _, hr, h.upd hi hm' hw' hp' c (h.inv.s1 hi hp (by omega) (by omega)), by omega, by omega, .inr ⟨rfl, ?_⟩⟩⟩
    simp only [rkS, hp, hw_set2]
    simp
    split <;> omega
  · rw [hp] at hs
    by_cases hw : K.hw X (ms i).k = (ms i).was
    · obtain ⟨u1, u2, u3⟩ := hm.up (.inr hp)
      have hnw : (ms i).nw < 18446744073709551616 := by rw [u2]; exact (sh_facts (h.inv.fits _) u3).1
      refine ⟨true, (ds_2y h.ds.mem hs h.ds.wt hf.1 hf.2.1 hT hlt hw hnw rfl).mono fun r w' ⟨hr, hm', hp', hw', c⟩ => ⟨_, _, _, hr, h.upd hi hm' hw' hp' c (h.inv.s2y hi hp hw), by omega, by omega, .inl ⟨rfl, rfl⟩⟩⟩
    · obtain ⟨u1, u2, u3⟩ := hm.up (.inr hp)
      have hc : canS (K.hw X (ms i).k) e = false := by
        cases hc : canS (K.hw X (ms i).k) e
        · rfl
        · exact absurd ((h.inv.white hm.k hc).trans u1.symm) hw
      refine ⟨false, (ds_2n h.ds.mem hs h.ds.wt hf.1 hf.2.1 hT hlt rfl hw).mono fun r w' ⟨hr, hm', hp', hw', c⟩ => ⟨_, _, _, hr, h.upd hi hm' hw' hp' c (h.inv.s2n hi hp), by omega, by omega, .inr ⟨rfl, ?_⟩⟩⟩
      simp [rkS, hp, hc]
  · rw [hp] at hs
    refine ⟨false, (ds_3 h.ds.mem hs h.ds.wt hf.1 hf.2.1 hT h2 rfl).mono fun r w' ⟨hr, hm', hp', hw', c⟩ => ⟨_, _, _, hr, h.upd hi hm' hw' hp' c (h.inv.s3 hi hp (by omega) (by omega)), by omega, by omega, .inr ⟨rfl, ?_⟩⟩⟩
    simp only [rkS, hp, hw_set2]
    simp
    split <;> omega
  · rw [hp] at hs
    refine ⟨true, (shd_4 (M := M) hs).mono fun r w' ⟨hr, hw'⟩ => ⟨X, T, ms i, hr, ?_, by omega, by omega, .inl ⟨rfl, hp⟩⟩⟩
    have e : updS ms i (ms i) = ms := by
      funext j
      unfold updS
      split
      · rename_i h; rw [h]
      · rfl
    rw [e, ← hw']
    exact h

theorem Pl.done {w wr : World} {K : Cf} {e n M G L R : Nat} {Y X : List Nat} {T : Int} {kk : Nat → Nat} {ms : Nat → Sh} (h : Pl w wr K e n M G L R Y X T kk ms) {i : Nat} (hi : i < n) (hp : (ms i).pc = 4) :
    Calls Tryd.prog 10 #[.pointer (some ⟨(ms i).P, 0, none⟩), .pointer (some ⟨M, 0, none⟩)] wr fun r w' => r = .returned (.bool true) ∧ wr = w' := by
  have hs := h.shd i hi
  rw [hp] at hs
  exact shd_4 (M := M) hs

/-- Whether a slot is among the first so many. -/
def hasK (kk : Nat → Nat) (s : Nat) : Nat → Bool
  | 0 => false
  | n + 1 => hasK kk s n || decide (kk n = s)
theorem hasK_of {kk : Nat → Nat} {s : Nat} : ∀ {n i : Nat}, i < n → kk i = s → hasK kk s n = true
  | 0, i, hi, _ => by omega
  | n + 1, i, hi, h => by
    show (hasK kk s n || decide (kk n = s)) = true
    by_cases hin : i < n
    · rw [hasK_of hin h]; rfl
    · have : i = n := by omega
      subst this
      simp [h]
theorem hasK_ex {kk : Nat → Nat} {s : Nat} : ∀ {n : Nat}, hasK kk s n = true → ∃ i, i < n ∧ kk i = s
  | 0, h => by cases h
  | n + 1, h => by
    have h' : (hasK kk s n || decide (kk n = s)) = true := h
    simp only [Bool.or_eq_true, decide_eq_true_eq] at h'
    rcases h' with h1 | h1
    · obtain ⟨i, hi, hk⟩ := hasK_ex h1
      exact ⟨i, by omega, hk⟩
    · exact ⟨n, by omega, h1⟩
/-- What a slot's header is to be. -/
def wantW (e : Nat) (kk : Nat → Nat) (V s n : Nat) : Nat := if hasK kk s n && canS V e then shN V e else V

theorem want_succ (e : Nat) (kk : Nat → Nat) (V s n : Nat) : wantW e kk V s (n + 1) = if decide (kk n = s) && canS V e then shN V e else wantW e kk V s n := by
  unfold wantW
  rw [show hasK kk s (n + 1) = (hasK kk s n || decide (kk n = s)) from rfl]
  cases hasK kk s n <;> cases decide (kk n = s) <;> cases canS V e <;> rfl
theorem want_no {e : Nat} {kk : Nat → Nat} {V s n : Nat} (h : kk n ≠ s) : wantW e kk V s (n + 1) = wantW e kk V s n := by rw [want_succ]; simp [h]
theorem want_cant {e : Nat} {kk : Nat → Nat} {V s n : Nat} (h : canS V e = false) : wantW e kk V s (n + 1) = wantW e kk V s n := by rw [want_succ]; simp [h]
theorem want_can {e : Nat} {kk : Nat → Nat} {V s n : Nat} (h1 : kk n = s) (h : canS V e = true) : wantW e kk V s (n + 1) = shN V e := by rw [want_succ]; simp [h, h1]
theorem want_0 (e : Nat) (kk : Nat → Nat) (V s : Nat) : wantW e kk V s 0 = V := rfl
theorem cN_yes {p : Nat → Bool} {n : Nat} (h : p n = true) : cN p (n + 1) = cN p n + 1 := by show cN p n + (p n).toNat = _; rw [h]; rfl
theorem cN_no {p : Nat → Bool} {n : Nat} (h : p n = false) : cN p (n + 1) = cN p n := by show cN p n + (p n).toNat = _; rw [h]; rfl
/-- A word's parts, and whether it can be shaded. -/
theorem can_parts {V : Nat} (hV : V < 18446744073709551616) (hok : okW V = true) (e : Nat) : ∃ Kk Mk g A N S, Hr Kk Mk A N S ∧ V = wordOf Kk Mk (g : Bool).toNat A N S ∧ canS V e = (usedK (Kk : Int) && decide ((Mk : Int) ≠ ((blackN e : Nat) : Int))) ∧ (canS V e = true → wordOf Kk (blackN e) (true : Bool).toNat A N S = shN V e) := by
  obtain ⟨Kk, Mk, g, A, N, S, h1, rfl, p0, p1, p2⟩ := okW_M hV hok
  refine ⟨Kk, Mk, g, A, N, S, h1, rfl, ?_, fun _ => ?_⟩
  · unfold canS
    rw [hok, p0, p1]
    unfold Hh.whiteH
    rw [Hh.black_nat]
    cases usedK (Kk : Int) <;> simp
  · unfold shN
    rw [p1, p2]
    have hm := h1.m
    have hg := Hh.bool_lt g
    unfold wordOf
    simp
    omega
theorem Pl.final {w wr : World} {K : Cf} {e n M G L R : Nat} {Y X : List Nat} {T : Int} {kk : Nat → Nat} {ms : Nat → Sh} (h : Pl w wr K e n M G L R Y X T kk ms) (hd : ∀ i, i < n → (ms i).pc = 4) :
    X.getD 2 0 = grN K X K.S ∧ (∀ s, s < K.S → K.hw X s = wantW e kk (K.hw Y s) s n) ∧ cN (fun i => (ms i).gw) n = cN (fun s => decide (K.hw X s ≠ K.hw Y s)) K.S := by
  refine ⟨?_, fun s hs => ?_, h.inv.grew⟩
  · have e0 : cN (fun i => fly (ms i)) n = 0 := cN_zero fun i hi => by simp [fly, hd i hi]
    rw [h.inv.gray, e0, grN_cN]
    rfl
  · unfold wantW
    cases hk : hasK kk s n
    · rcases h.inv.head s hs with h1 | ⟨h1, h2, i, hi, hi2⟩
      · simp [h1]
      · rw [h.kk i hi] at hi2
        rw [hasK_of hi hi2] at hk
        cases hk
    · obtain ⟨i, hi, hi2⟩ := hasK_ex hk
      have hf := (h.inv.mach i hi).fin (hd i hi)
      rw [h.kk i hi, hi2] at hf
      cases hc : canS (K.hw Y s) e
      · rcases h.inv.head s hs with h1 | ⟨h1, _⟩
        · simp [h1]
        · rw [hc] at h1; cases h1
      · rcases h.inv.head s hs with h1 | ⟨_, h2, _⟩
        · rw [h1, hc] at hf; cases hf
        · simp [h2]
end Go.Proofs.YtpfcpkkillklkaaDoor
