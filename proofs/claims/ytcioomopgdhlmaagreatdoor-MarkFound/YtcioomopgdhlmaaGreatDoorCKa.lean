/- Machines of package shade and mark as they lie in a block; what may be put into their cells. -/
import Derived.Test.YtcioomopgdhlmaaGreatDoorCB
namespace Go.Proofs.YtcioomopgdhlmaaGreatDoor
open Go.RowKit
open Mm (IsMem MS touched Only IsWords)
open Hh (WT okW)

theorem addX {w : World} {M G : Nat} {X : List Nat} {T : Int} (h : MemX w M G X T) {i v s : Nat} (hi : i < X.length) (ht : 0 ≤ T ∧ T < 4611686018427387904) (hs : Mm.sumW (X.getD i 0) v = s) :
    Calls Tryz.prog 94 #[.pointer (some ⟨M, 0, none⟩), .int .i64 (i : Nat), .int .u64 (v : Nat)] w fun e w' => e = .returned (.int .u64 (s : Nat)) ∧ MemX w' M G (X.set i s) (T + 1) ∧ Only M G w w' := by
  obtain ⟨m, hm, rfl, rfl⟩ := h
  have c := Mm.add_in hm i v hi ht
  rw [hs] at c
  exact c.mono fun e w' ⟨h1, h2, h3⟩ => ⟨h1, ⟨_, h2, rfl, rfl⟩, h3⟩

/-- What a Shade holds. -/
structure Sd where
  gw : Bool
  h : Nat
  e : Nat
  pc : Nat
  was : Nat
  now : Nat
structure SdAt (c : Array Value) (o : Nat) (s : Sd) : Prop where
  gw : c[o]? = some (.bool s.gw)
  h : c[o + 1]? = some (.int .i64 (s.h : Nat))
  e : c[o + 2]? = some (.int .u64 (s.e : Nat))
  pc : c[o + 3]? = some (.int .i64 (s.pc : Nat))
  was : c[o + 4]? = some (.int .u64 (s.was : Nat))
  now : c[o + 5]? = some (.int .u64 (s.now : Nat))
theorem SdAt.size {c : Array Value} {o : Nat} {s : Sd} (h : SdAt c o s) : o + 5 < c.size := lt_get h.now
theorem SdAt.put_gw {c : Array Value} {o : Nat} {s : Sd} (h : SdAt c o s) (v : Bool) : SdAt (c.setIfInBounds o (.bool v)) o { s with gw := v } := by
  have := h.size
  exact ⟨get_set (by omega), (get_set_ne (by omega)).trans h.h, (get_set_ne (by omega)).trans h.e, (get_set_ne (by omega)).trans h.pc, (get_set_ne (by omega)).trans h.was, (get_set_ne (by omega)).trans h.now⟩
theorem SdAt.put_pc {c : Array Value} {o : Nat} {s : Sd} (h : SdAt c o s) (v : Nat) : SdAt (c.setIfInBounds (o + 3) (.int .i64 (v : Nat))) o { s with pc := v } := by
  have := h.size
  exact ⟨(get_set_ne (by omega)).trans h.gw, (get_set_ne (by omega)).trans h.h, (get_set_ne (by omega)).trans h.e, get_set (by omega), (get_set_ne (by omega)).trans h.was, (get_set_ne (by omega)).trans h.now⟩
theorem SdAt.put_was {c : Array Value} {o : Nat} {s : Sd} (h : SdAt c o s) (v : Nat) : SdAt (c.setIfInBounds (o + 4) (.int .u64 (v : Nat))) o { s with was := v } := by
  have := h.size
  exact ⟨(get_set_ne (by omega)).trans h.gw, (get_set_ne (by omega)).trans h.h, (get_set_ne (by omega)).trans h.e, (get_set_ne (by omega)).trans h.pc, get_set (by omega), (get_set_ne (by omega)).trans h.now⟩
theorem SdAt.put_now {c : Array Value} {o : Nat} {s : Sd} (h : SdAt c o s) (v : Nat) : SdAt (c.setIfInBounds (o + 5) (.int .u64 (v : Nat))) o { s with now := v } := by
  have := h.size
  exact ⟨(get_set_ne (by omega)).trans h.gw, (get_set_ne (by omega)).trans h.h, (get_set_ne (by omega)).trans h.e, (get_set_ne (by omega)).trans h.pc, (get_set_ne (by omega)).trans h.was, get_set (by omega)⟩
theorem SdAt.same {c c' : Array Value} {o a b : Nat} {s : Sd} (h : SdAt c o s) (k : Same c c' a b) (hq : o + 5 < a ∨ b < o) : SdAt c' o s :=
  ⟨(k.out _ (by omega)).trans h.gw, (k.out _ (by omega)).trans h.h, (k.out _ (by omega)).trans h.e, (k.out _ (by omega)).trans h.pc, (k.out _ (by omega)).trans h.was, (k.out _ (by omega)).trans h.now⟩

/-- What a Mark holds. -/
structure Km where
  ps : Nat
  cu : Nat
  e : Nat
  pc : Nat
  who : Nat
  en : Nat
  least : Nat
  fnd : Nat
  sd : Sd
  th : Nat
  wt : Nat → Nat
  wn : Nat
  nx : Nat
  sl : Nat
  hd : Nat
  fi : Nat
  fs : Nat
  sm : Nat
structure KmAt (c : Array Value) (o : Nat) (K : Cf) (s : Km) : Prop where
  ps : c[o]? = some (.int .i64 (s.ps : Nat))
  cu : c[o + 1]? = some (.int .i64 (s.cu : Nat))
  k0 : c[o + 2]? = some (.int .i64 (K.S : Nat))
  k1 : c[o + 3]? = some (.int .i64 K.a)
  k2 : c[o + 4]? = some (.int .i64 (K.C : Nat))
  k3 : c[o + 5]? = some (.int .i64 (K.D : Nat))
  k4 : c[o + 6]? = some (.int .i64 K.g)
  k5 : c[o + 7]? = some (.int .i64 K.k)
  e : c[o + 8]? = some (.int .u64 (s.e : Nat))
  pc : c[o + 9]? = some (.int .i64 (s.pc : Nat))
  who : c[o + 10]? = some (.int .i64 (s.who : Nat))
  en : c[o + 11]? = some (.int .i64 (s.en : Nat))
  least : c[o + 12]? = some (.int .u64 (s.least : Nat))
  fnd : c[o + 13]? = some (.int .i64 (s.fnd : Nat))
  sd : SdAt c (o + 14) s.sd
  th : c[o + 20]? = some (.int .i64 (s.th : Nat))
  wt : ∀ i, i < 64 → c[o + 21 + i]? = some (.int .i64 (s.wt i : Nat))
  wn : c[o + 85]? = some (.int .i64 (s.wn : Nat))
  nx : c[o + 86]? = some (.int .i64 (s.nx : Nat))
  sl : c[o + 87]? = some (.int .i64 (s.sl : Nat))
  hd : c[o + 88]? = some (.int .u64 (s.hd : Nat))
  fi : c[o + 89]? = some (.int .i64 (s.fi : Nat))
  fs : c[o + 90]? = some (.int .i64 (s.fs : Nat))
  sm : c[o + 91]? = some (.int .u64 (s.sm : Nat))
theorem KmAt.size {c : Array Value} {o : Nat} {K : Cf} {s : Km} (h : KmAt c o K s) : o + 91 < c.size := lt_get h.sm
theorem KmAt.put_ps {c : Array Value} {o : Nat} {K : Cf} {s : Km} (h : KmAt c o K s) (v : Nat) : KmAt (c.setIfInBounds o (.int .i64 (v : Nat))) o K { s with ps := v } := by
  have := h.size
  exact ⟨get_set (by omega), (get_set_ne (by omega)).trans h.cu, (get_set_ne (by omega)).trans h.k0, (get_set_ne (by omega)).trans h.k1, (get_set_ne (by omega)).trans h.k2, (get_set_ne (by omega)).trans h.k3, (get_set_ne (by omega)).trans h.k4, (get_set_ne (by omega)).trans h.k5, (get_set_ne (by omega)).trans h.e, (get_set_ne (by omega)).trans h.pc, (get_set_ne (by omega)).trans h.who, (get_set_ne (by omega)).trans h.en, (get_set_ne (by omega)).trans h.least, (get_set_ne (by omega)).trans h.fnd, h.sd.same (Same.set (a := o) (b := o) _ _ (by omega)) (by omega), (get_set_ne (by omega)).trans h.th, fun i hi => (get_set_ne (by omega)).trans (h.wt i hi), (get_set_ne (by omega)).trans h.wn, (get_set_ne (by omega)).trans h.nx, (get_set_ne (by omega)).trans h.sl, (get_set_ne (by omega)).trans h.hd, (get_set_ne (by omega)).trans h.fi, (get_set_ne (by omega)).trans h.fs, (get_set_ne (by omega)).trans h.sm⟩
theorem KmAt.put_cu {c : Array Value} {o : Nat} {K : Cf} {s : Km} (h : KmAt c o K s) (v : Nat) : KmAt (c.setIfInBounds (o + 1) (.int .i64 (v : Nat))) o K { s with cu := v } := by
  have := h.size
  exact ⟨(get_set_ne (by omega)).trans h.ps, get_set (by omega), (get_set_ne (by omega)).trans h.k0, (get_set_ne (by omega)).trans h.k1, (get_set_ne (by omega)).trans h.k2, (get_set_ne (by omega)).trans h.k3, (get_set_ne (by omega)).trans h.k4, (get_set_ne (by omega)).trans h.k5, (get_set_ne (by omega)).trans h.e, (get_set_ne (by omega)).trans h.pc, (get_set_ne (by omega)).trans h.who, (get_set_ne (by omega)).trans h.en, (get_set_ne (by omega)).trans h.least, (get_set_ne (by omega)).trans h.fnd, h.sd.same (Same.set (a := o + 1) (b := o + 1) _ _ (by omega)) (by omega), (get_set_ne (by omega)).trans h.th, fun i hi => (get_set_ne (by omega)).trans (h.wt i hi), (get_set_ne (by omega)).trans h.wn, (get_set_ne (by omega)).trans h.nx, (get_set_ne (by omega)).trans h.sl, (get_set_ne (by omega)).trans h.hd, (get_set_ne (by omega)).trans h.fi, (get_set_ne (by omega)).trans h.fs, (get_set_ne (by omega)).trans h.sm⟩
theorem KmAt.put_pc {c : Array Value} {o : Nat} {K : Cf} {s : Km} (h : KmAt c o K s) (v : Nat) : KmAt (c.setIfInBounds (o + 9) (.int .i64 (v : Nat))) o K { s with pc := v } := by
  have := h.size
  exact ⟨(get_set_ne (by omega)).trans h.ps, (get_set_ne (by omega)).trans h.cu, (get_set_ne (by omega)).trans h.k0, (get_set_ne (by omega)).trans h.k1, (get_set_ne (by omega)).trans h.k2, (get_set_ne (by omega)).trans h.k3, (get_set_ne (by omega)).trans h.k4, (get_set_ne (by omega)).trans h.k5, (get_set_ne (by omega)).trans h.e, get_set (by omega), (get_set_ne (by omega)).trans h.who, (get_set_ne (by omega)).trans h.en, (get_set_ne (by omega)).trans h.least, (get_set_ne (by omega)).trans h.fnd, h.sd.same (Same.set (a := o + 9) (b := o + 9) _ _ (by omega)) (by omega), (get_set_ne (by omega)).trans h.th, fun i hi => (get_set_ne (by omega)).trans (h.wt i hi), (get_set_ne (by omega)).trans h.wn, (get_set_ne (by omega)).trans h.nx, (get_set_ne (by omega)).trans h.sl, (get_set_ne (by omega)).trans h.hd, (get_set_ne (by omega)).trans h.fi, (get_set_ne (by omega)).trans h.fs, (get_set_ne (by omega)).trans h.sm⟩
theorem KmAt.put_who {c : Array Value} {o : Nat} {K : Cf} {s : Km} (h : KmAt c o K s) (v : Nat) : KmAt (c.setIfInBounds (o + 10) (.int .i64 (v : Nat))) o K { s with who := v } := by
  have := h.size
  exact ⟨(get_set_ne (by omega)).trans h.ps, (get_set_ne (by omega)).trans h.cu, (get_set_ne (by omega)).trans h.k0, (get_set_ne (by omega)).trans h.k1, (get_set_ne (by omega)).trans h.k2, (get_set_ne (by omega)).trans h.k3, (get_set_ne (by omega)).trans h.k4, (get_set_ne (by omega)).trans h.k5, (get_set_ne (by omega)).trans h.e, (get_set_ne (by omega)).trans h.pc, get_set (by omega), (get_set_ne (by omega)).trans h.en, (get_set_ne (by omega)).trans h.least, (get_set_ne (by omega)).trans h.fnd, h.sd.same (Same.set (a := o + 10) (b := o + 10) _ _ (by omega)) (by omega), (get_set_ne (by omega)).trans h.th, fun i hi => (get_set_ne (by omega)).trans (h.wt i hi), (get_set_ne (by omega)).trans h.wn, (get_set_ne (by omega)).trans h.nx, (get_set_ne (by omega)).trans h.sl, (get_set_ne (by omega)).trans h.hd, (get_set_ne (by omega)).trans h.fi, (get_set_ne (by omega)).trans h.fs, (get_set_ne (by omega)).trans h.sm⟩
theorem KmAt.put_en {c : Array Value} {o : Nat} {K : Cf} {s : Km} (h : KmAt c o K s) (v : Nat) : KmAt (c.setIfInBounds (o + 11) (.int .i64 (v : Nat))) o K { s with en := v } := by
  have := h.size
  exact ⟨(get_set_ne (by omega)).trans h.ps, (get_set_ne (by omega)).trans h.cu, (get_set_ne (by omega)).trans h.k0, (get_set_ne (by omega)).trans h.k1, (get_set_ne (by omega)).trans h.k2, (get_set_ne (by omega)).trans h.k3, (get_set_ne (by omega)).trans h.k4, (get_set_ne (by omega)).trans h.k5, (get_set_ne (by omega)).trans h.e, (get_set_ne (by omega)).trans h.pc, (get_set_ne (by omega)).trans h.who, get_set (by omega), (get_set_ne (by omega)).trans h.least, (get_set_ne (by omega)).trans h.fnd, h.sd.same (Same.set (a := o + 11) (b := o + 11) _ _ (by omega)) (by omega), (get_set_ne (by omega)).trans h.th, fun i hi => (get_set_ne (by omega)).trans (h.wt i hi), (get_set_ne (by omega)).trans h.wn, (get_set_ne (by omega)).trans h.nx, (get_set_ne (by omega)).trans h.sl, (get_set_ne (by omega)).trans h.hd, (get_set_ne (by omega)).trans h.fi, (get_set_ne (by omega)).trans h.fs, (get_set_ne (by omega)).trans h.sm⟩
theorem KmAt.put_least {c : Array Value} {o : Nat} {K : Cf} {s : Km} (h : KmAt c o K s) (v : Nat) : KmAt (c.setIfInBounds (o + 12) (.int .u64 (v : Nat))) o K { s with least := v } := by
  have := h.size
  exact ⟨(get_set_ne (by omega)).trans h.ps, (get_set_ne (by omega)).trans h.cu, (get_set_ne (by omega)).trans h.k0, (get_set_ne (by omega)).trans h.k1, (get_set_ne (by omega)).trans h.k2, (get_set_ne (by omega)).trans h.k3, (get_set_ne (by omega)).trans h.k4, (get_set_ne (by omega)).trans h.k5, (get_set_ne (by omega)).trans h.e, (get_set_ne (by omega)).trans h.pc, (get_set_ne (by omega)).trans h.who, (get_set_ne (by omega)).trans h.en, get_set (by omega), (get_set_ne (by omega)).trans h.fnd, h.sd.same (Same.set (a := o + 12) (b := o + 12) _ _ (by omega)) (by omega), (get_set_ne (by omega)).trans h.th, fun i hi => (get_set_ne (by omega)).trans (h.wt i hi), (get_set_ne (by omega)).trans h.wn, (get_set_ne (by omega)).trans h.nx, (get_set_ne (by omega)).trans h.sl, (get_set_ne (by omega)).trans h.hd, (get_set_ne (by omega)).trans h.fi, (get_set_ne (by omega)).trans h.fs, (get_set_ne (by omega)).trans h.sm⟩
theorem KmAt.put_fnd {c : Array Value} {o : Nat} {K : Cf} {s : Km} (h : KmAt c o K s) (v : Nat) : KmAt (c.setIfInBounds (o + 13) (.int .i64 (v : Nat))) o K { s with fnd := v } := by
  have := h.size
  exact ⟨(get_set_ne (by omega)).trans h.ps, (get_set_ne (by omega)).trans h.cu, (get_set_ne (by omega)).trans h.k0, (get_set_ne (by omega)).trans h.k1, (get_set_ne (by omega)).trans h.k2, (get_set_ne (by omega)).trans h.k3, (get_set_ne (by omega)).trans h.k4, (get_set_ne (by omega)).trans h.k5, (get_set_ne (by omega)).trans h.e, (get_set_ne (by omega)).trans h.pc, (get_set_ne (by omega)).trans h.who, (get_set_ne (by omega)).trans h.en, (get_set_ne (by omega)).trans h.least, get_set (by omega), h.sd.same (Same.set (a := o + 13) (b := o + 13) _ _ (by omega)) (by omega), (get_set_ne (by omega)).trans h.th, fun i hi => (get_set_ne (by omega)).trans (h.wt i hi), (get_set_ne (by omega)).trans h.wn, (get_set_ne (by omega)).trans h.nx, (get_set_ne (by omega)).trans h.sl, (get_set_ne (by omega)).trans h.hd, (get_set_ne (by omega)).trans h.fi, (get_set_ne (by omega)).trans h.fs, (get_set_ne (by omega)).trans h.sm⟩
theorem KmAt.put_th {c : Array Value} {o : Nat} {K : Cf} {s : Km} (h : KmAt c o K s) (v : Nat) : KmAt (c.setIfInBounds (o + 20) (.int .i64 (v : Nat))) o K { s with th := v } := by
  have := h.size
  exact ⟨(get_set_ne (by omega)).trans h.ps, (get_set_ne (by omega)).trans h.cu, (get_set_ne (by omega)).trans h.k0, (get_set_ne (by omega)).trans h.k1, (get_set_ne (by omega)).trans h.k2, (get_set_ne (by omega)).trans h.k3, (get_set_ne (by omega)).trans h.k4, (get_set_ne (by omega)).trans h.k5, (get_set_ne (by omega)).trans h.e, (get_set_ne (by omega)).trans h.pc, (get_set_ne (by omega)).trans h.who, (get_set_ne (by omega)).trans h.en, (get_set_ne (by omega)).trans h.least, (get_set_ne (by omega)).trans h.fnd, h.sd.same (Same.set (a := o + 20) (b := o + 20) _ _ (by omega)) (by omega), get_set (by omega), fun i hi => (get_set_ne (by omega)).trans (h.wt i hi), (get_set_ne (by omega)).trans h.wn, (get_set_ne (by omega)).trans h.nx, (get_set_ne (by omega)).trans h.sl, (get_set_ne (by omega)).trans h.hd, (get_set_ne (by omega)).trans h.fi, (get_set_ne (by omega)).trans h.fs, (get_set_ne (by omega)).trans h.sm⟩
theorem KmAt.put_wn {c : Array Value} {o : Nat} {K : Cf} {s : Km} (h : KmAt c o K s) (v : Nat) : KmAt (c.setIfInBounds (o + 85) (.int .i64 (v : Nat))) o K { s with wn := v } := by
  have := h.size
  exact ⟨(get_set_ne (by omega)).trans h.ps, (get_set_ne (by omega)).trans h.cu, (get_set_ne (by omega)).trans h.k0, (get_set_ne (by omega)).trans h.k1, (get_set_ne (by omega)).trans h.k2, (get_set_ne (by omega)).trans h.k3, (get_set_ne (by omega)).trans h.k4, (get_set_ne (by omega)).trans h.k5, (get_set_ne (by omega)).trans h.e, (get_set_ne (by omega)).trans h.pc, (get_set_ne (by omega)).trans h.who, (get_set_ne (by omega)).trans h.en, (get_set_ne (by omega)).trans h.least, (get_set_ne (by omega)).trans h.fnd, h.sd.same (Same.set (a := o + 85) (b := o + 85) _ _ (by omega)) (by omega), (get_set_ne (by omega)).trans h.th, fun i hi => (get_set_ne (by omega)).trans (h.wt i hi), get_set (by omega), (get_set_ne (by omega)).trans h.nx, (get_set_ne (by omega)).trans h.sl, (get_set_ne (by omega)).trans h.hd, (get_set_ne (by omega)).trans h.fi, (get_set_ne (by omega)).trans h.fs, (get_set_ne (by omega)).trans h.sm⟩
theorem KmAt.put_nx {c : Array Value} {o : Nat} {K : Cf} {s : Km} (h : KmAt c o K s) (v : Nat) : KmAt (c.setIfInBounds (o + 86) (.int .i64 (v : Nat))) o K { s with nx := v } := by
  have := h.size
  exact ⟨(get_set_ne (by omega)).trans h.ps, (get_set_ne (by omega)).trans h.cu, (get_set_ne (by omega)).trans h.k0, (get_set_ne (by omega)).trans h.k1, (get_set_ne (by omega)).trans h.k2, (get_set_ne (by omega)).trans h.k3, (get_set_ne (by omega)).trans h.k4, (get_set_ne (by omega)).trans h.k5, (get_set_ne (by omega)).trans h.e, (get_set_ne (by omega)).trans h.pc, (get_set_ne (by omega)).trans h.who, (get_set_ne (by omega)).trans h.en, (get_set_ne (by omega)).trans h.least, (get_set_ne (by omega)).trans h.fnd, h.sd.same (Same.set (a := o + 86) (b := o + 86) _ _ (by omega)) (by omega), (get_set_ne (by omega)).trans h.th, fun i hi => (get_set_ne (by omega)).trans (h.wt i hi), (get_set_ne (by omega)).trans h.wn, get_set (by omega), (get_set_ne (by omega)).trans h.sl, (get_set_ne (by omega)).trans h.hd, (get_set_ne (by omega)).trans h.fi, (get_set_ne (by omega)).trans h.fs, (get_set_ne (by omega)).trans h.sm⟩
theorem KmAt.put_sl {c : Array Value} {o : Nat} {K : Cf} {s : Km} (h : KmAt c o K s) (v : Nat) : KmAt (c.setIfInBounds (o + 87) (.int .i64 (v : Nat))) o K { s with sl := v } := by
  have := h.size
  exact ⟨(get_set_ne (by omega)).trans h.ps, (get_set_ne (by omega)).trans h.cu, (get_set_ne (by omega)).trans h.k0, (get_set_ne (by omega)).trans h.k1, (get_set_ne (by omega)).trans h.k2, (get_set_ne (by omega)).trans h.k3, (get_set_ne (by omega)).trans h.k4, (get_set_ne (by omega)).trans h.k5, (get_set_ne (by omega)).trans h.e, (get_set_ne (by omega)).trans h.pc, (get_set_ne (by omega)).trans h.who, (get_set_ne (by omega)).trans h.en, (get_set_ne (by omega)).trans h.least, (get_set_ne (by omega)).trans h.fnd, h.sd.same (Same.set (a := o + 87) (b := o + 87) _ _ (by omega)) (by omega), (get_set_ne (by omega)).trans h.th, fun i hi => (get_set_ne (by omega)).trans (h.wt i hi), (get_set_ne (by omega)).trans h.wn, (get_set_ne (by omega)).trans h.nx, get_set (by omega), (get_set_ne (by omega)).trans h.hd, (get_set_ne (by omega)).trans h.fi, (get_set_ne (by omega)).trans h.fs, (get_set_ne (by omega)).trans h.sm⟩
theorem KmAt.put_hd {c : Array Value} {o : Nat} {K : Cf} {s : Km} (h : KmAt c o K s) (v : Nat) : KmAt (c.setIfInBounds (o + 88) (.int .u64 (v : Nat))) o K { s with hd := v } := by
  have := h.size
  exact ⟨(get_set_ne (by omega)).trans h.ps, (get_set_ne (by omega)).trans h.cu, (get_set_ne (by omega)).trans h.k0, (get_set_ne (by omega)).trans h.k1, (get_set_ne (by omega)).trans h.k2, (get_set_ne (by omega)).trans h.k3, (get_set_ne (by omega)).trans h.k4, (get_set_ne (by omega)).trans h.k5, (get_set_ne (by omega)).trans h.e, (get_set_ne (by omega)).trans h.pc, (get_set_ne (by omega)).trans h.who, (get_set_ne (by omega)).trans h.en, (get_set_ne (by omega)).trans h.least, (get_set_ne (by omega)).trans h.fnd, h.sd.same (Same.set (a := o + 88) (b := o + 88) _ _ (by omega)) (by omega), (get_set_ne (by omega)).trans h.th, fun i hi => (get_set_ne (by omega)).trans (h.wt i hi), (get_set_ne (by omega)).trans h.wn, (get_set_ne (by omega)).trans h.nx, (get_set_ne (by omega)).trans h.sl, get_set (by omega), (get_set_ne (by omega)).trans h.fi, (get_set_ne (by omega)).trans h.fs, (get_set_ne (by omega)).trans h.sm⟩
theorem KmAt.put_fi {c : Array Value} {o : Nat} {K : Cf} {s : Km} (h : KmAt c o K s) (v : Nat) : KmAt (c.setIfInBounds (o + 89) (.int .i64 (v : Nat))) o K { s with fi := v } := by
  have := h.size
  exact ⟨(get_set_ne (by omega)).trans h.ps, (get_set_ne (by omega)).trans h.cu, (get_set_ne (by omega)).trans h.k0, (get_set_ne (by omega)).trans h.k1, (get_set_ne (by omega)).trans h.k2, (get_set_ne (by omega)).trans h.k3, (get_set_ne (by omega)).trans h.k4, (get_set_ne (by omega)).trans h.k5, (get_set_ne (by omega)).trans h.e, (get_set_ne (by omega)).trans h.pc, (get_set_ne (by omega)).trans h.who, (get_set_ne (by omega)).trans h.en, (get_set_ne (by omega)).trans h.least, (get_set_ne (by omega)).trans h.fnd, h.sd.same (Same.set (a := o + 89) (b := o + 89) _ _ (by omega)) (by omega), (get_set_ne (by omega)).trans h.th, fun i hi => (get_set_ne (by omega)).trans (h.wt i hi), (get_set_ne (by omega)).trans h.wn, (get_set_ne (by omega)).trans h.nx, (get_set_ne (by omega)).trans h.sl, (get_set_ne (by omega)).trans h.hd, get_set (by omega), (get_set_ne (by omega)).trans h.fs, (get_set_ne (by omega)).trans h.sm⟩
theorem KmAt.put_fs {c : Array Value} {o : Nat} {K : Cf} {s : Km} (h : KmAt c o K s) (v : Nat) : KmAt (c.setIfInBounds (o + 90) (.int .i64 (v : Nat))) o K { s with fs := v } := by
  have := h.size
  exact ⟨(get_set_ne (by omega)).trans h.ps, (get_set_ne (by omega)).trans h.cu, (get_set_ne (by omega)).trans h.k0, (get_set_ne (by omega)).trans h.k1, (get_set_ne (by omega)).trans h.k2, (get_set_ne (by omega)).trans h.k3, (get_set_ne (by omega)).trans h.k4, (get_set_ne (by omega)).trans h.k5, (get_set_ne (by omega)).trans h.e, (get_set_ne (by omega)).trans h.pc, (get_set_ne (by omega)).trans h.who, (get_set_ne (by omega)).trans h.en, (get_set_ne (by omega)).trans h.least, (get_set_ne (by omega)).trans h.fnd, h.sd.same (Same.set (a := o + 90) (b := o + 90) _ _ (by omega)) (by omega), (get_set_ne (by omega)).trans h.th, fun i hi => (get_set_ne (by omega)).trans (h.wt i hi), (get_set_ne (by omega)).trans h.wn, (get_set_ne (by omega)).trans h.nx, (get_set_ne (by omega)).trans h.sl, (get_set_ne (by omega)).trans h.hd, (get_set_ne (by omega)).trans h.fi, get_set (by omega), (get_set_ne (by omega)).trans h.sm⟩
theorem KmAt.put_sm {c : Array Value} {o : Nat} {K : Cf} {s : Km} (h : KmAt c o K s) (v : Nat) : KmAt (c.setIfInBounds (o + 91) (.int .u64 (v : Nat))) o K { s with sm := v } := by
  have := h.size
  exact ⟨(get_set_ne (by omega)).trans h.ps, (get_set_ne (by omega)).trans h.cu, (get_set_ne (by omega)).trans h.k0, (get_set_ne (by omega)).trans h.k1, (get_set_ne (by omega)).trans h.k2, (get_set_ne (by omega)).trans h.k3, (get_set_ne (by omega)).trans h.k4, (get_set_ne (by omega)).trans h.k5, (get_set_ne (by omega)).trans h.e, (get_set_ne (by omega)).trans h.pc, (get_set_ne (by omega)).trans h.who, (get_set_ne (by omega)).trans h.en, (get_set_ne (by omega)).trans h.least, (get_set_ne (by omega)).trans h.fnd, h.sd.same (Same.set (a := o + 91) (b := o + 91) _ _ (by omega)) (by omega), (get_set_ne (by omega)).trans h.th, fun i hi => (get_set_ne (by omega)).trans (h.wt i hi), (get_set_ne (by omega)).trans h.wn, (get_set_ne (by omega)).trans h.nx, (get_set_ne (by omega)).trans h.sl, (get_set_ne (by omega)).trans h.hd, (get_set_ne (by omega)).trans h.fi, (get_set_ne (by omega)).trans h.fs, get_set (by omega)⟩
theorem KmAt.put_sd {c c' : Array Value} {o : Nat} {K : Cf} {s : Km} (h : KmAt c o K s) {d : Sd} (k : Same c c' (o + 14) (o + 14 + 5)) (hd : SdAt c' (o + 14) d) : KmAt c' o K { s with sd := d } := 
  ⟨(k.out _ (by omega)).trans h.ps, (k.out _ (by omega)).trans h.cu, (k.out _ (by omega)).trans h.k0, (k.out _ (by omega)).trans h.k1, (k.out _ (by omega)).trans h.k2, (k.out _ (by omega)).trans h.k3, (k.out _ (by omega)).trans h.k4, (k.out _ (by omega)).trans h.k5, (k.out _ (by omega)).trans h.e, (k.out _ (by omega)).trans h.pc, (k.out _ (by omega)).trans h.who, (k.out _ (by omega)).trans h.en, (k.out _ (by omega)).trans h.least, (k.out _ (by omega)).trans h.fnd, hd, (k.out _ (by omega)).trans h.th, fun i hi => (k.out _ (by omega)).trans (h.wt i hi), (k.out _ (by omega)).trans h.wn, (k.out _ (by omega)).trans h.nx, (k.out _ (by omega)).trans h.sl, (k.out _ (by omega)).trans h.hd, (k.out _ (by omega)).trans h.fi, (k.out _ (by omega)).trans h.fs, (k.out _ (by omega)).trans h.sm⟩
theorem KmAt.put_wt {c : Array Value} {o : Nat} {K : Cf} {s : Km} (h : KmAt c o K s) {j : Nat} (hj : j < 64) (v : Nat) : KmAt (c.setIfInBounds (o + 21 + j) (.int .i64 (v : Nat))) o K { s with wt := fun i => if i = j then v else s.wt i } := by
  have := h.size
  have k : Same c (c.setIfInBounds (o + 21 + j) (.int .i64 (v : Nat))) (o + 21 + j) (o + 21 + j) := Same.set _ _ (by omega)
  exact ⟨(k.out _ (by omega)).trans h.ps, (k.out _ (by omega)).trans h.cu, (k.out _ (by omega)).trans h.k0, (k.out _ (by omega)).trans h.k1, (k.out _ (by omega)).trans h.k2, (k.out _ (by omega)).trans h.k3, (k.out _ (by omega)).trans h.k4, (k.out _ (by omega)).trans h.k5, (k.out _ (by omega)).trans h.e, (k.out _ (by omega)).trans h.pc, (k.out _ (by omega)).trans h.who, (k.out _ (by omega)).trans h.en, (k.out _ (by omega)).trans h.least, (k.out _ (by omega)).trans h.fnd, h.sd.same k (by omega), (k.out _ (by omega)).trans h.th, fun i hi => by
    show _ = some (Value.int .i64 ((if i = j then v else s.wt i : Nat) : Int))
    by_cases e : i = j
    · subst e; rw [if_pos rfl]; exact get_set (by omega)
    · rw [if_neg e]; exact (get_set_ne (by omega)).trans (h.wt i hi), (k.out _ (by omega)).trans h.wn, (k.out _ (by omega)).trans h.nx, (k.out _ (by omega)).trans h.sl, (k.out _ (by omega)).trans h.hd, (k.out _ (by omega)).trans h.fi, (k.out _ (by omega)).trans h.fs, (k.out _ (by omega)).trans h.sm⟩
theorem KmAt.rdc {w wr : World} {M G N P : Nat} {X : List Nat} {T : Int} {c : Array Value} {t : TypeId} {o : Nat} {K : Cf} {s : Km} (h : KmAt c o K s) (is : InA w wr M G N X T P c t) :
    wr.cell? ⟨P, o + 2, none⟩ = some (.int .i64 (K.S : Nat)) ∧ wr.cell? ⟨P, o + 2 + 1, none⟩ = some (.int .i64 K.a) ∧ wr.cell? ⟨P, o + 2 + 2, none⟩ = some (.int .i64 (K.C : Nat)) ∧ wr.cell? ⟨P, o + 2 + 3, none⟩ = some (.int .i64 (K.D : Nat)) ∧ wr.cell? ⟨P, o + 2 + 4, none⟩ = some (.int .i64 K.g) ∧ wr.cell? ⟨P, o + 2 + 5, none⟩ = some (.int .i64 K.k) :=
  ⟨is.cell h.k0, is.cell h.k1, is.cell h.k2, is.cell h.k3, is.cell h.k4, is.cell h.k5⟩
end Go.Proofs.YtcioomopgdhlmaaGreatDoor
