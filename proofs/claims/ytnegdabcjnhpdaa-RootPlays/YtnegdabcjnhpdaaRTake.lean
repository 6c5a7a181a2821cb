/- Contracts of package root's Table: Take, Find, Drop, NewTable. -/
import Derived.Test.YtnegdabcjnhpdaaRBase
import Derived.Deep.Cut
import Derived.BigQuiet
namespace Go.Proofs.Ytnegdabcjnhpdaa
open Go.RowKit
open Mm (Only wordsOf)

/-- What is known of the world within a call. -/
structure InT (w wr : World) (P R : Nat) (t : Tb) : Prop where
  tab : IsTab wr P R t
  chg : Chg [R] w wr
theorem InT.start {w : World} {P R : Nat} {t : Tb} (h : IsTab w P R t) : InT w w P R t := ⟨h, Chg.refl _ _⟩
theorem InT.below {w wr w' : World} {P R : Nat} {t : Tb} (h : InT w wr P R t) (b : Below wr.heap.size wr w') : InT w w' P R t := ⟨h.tab.below b, h.chg.then_below b⟩
theorem InT.drew {w wr : World} {P R : Nat} {t : Tb} (h : InT w wr P R t) : InT w wr.drew P R t := h.below (Below.refl _ _).drew
theorem InT.put {w wr : World} {P R : Nat} {t : Tb} (h : InT w wr P R t) (i : Nat) {x : En} (hx : EnOk x) : InT w (wr.setCell ⟨R, i, none⟩ (.int .u64 (enW x : Nat))) P R (t.put i x) := ⟨h.tab.put i hx, h.chg.setCell (by simp) _⟩

set_option maxHeartbeats 2000000 in
theorem take_yes {P R : Nat} {t : Tb} {w : World} (h : IsTab w P R t) (slot : Nat) (hs : (slot : Int) < t.s) {i : Nat} (hf : ff t.A = some i) {tg : Nat} (htg : (t.A.getD i (0, 0)).1 = tg) :
    Calls Try.prog 7 #[.pointer (some ⟨P, 0, none⟩), .int .i64 (slot : Nat)] w fun e w' => e = .returned (.tuple #[.int .i64 (i : Nat), .int .u64 (Tg.hW t.who i (tg + 1) : Nat), .bool true]) ∧ IsTab w' P R (t.put i (tg + 1, (slot : Int))) ∧ Chg [R] w w' := by
  have hi := ff_lt hf
  have hfr := ff_at hf
  have hold := h.ok.at hi
  have hfr' : (t.A.getD i (0, 0)).2 = -1 ∧ (t.A.getD i (0, 0)).1 < 4294967295 := by simpa [frE] using hfr
  have htl : tg < 4294967295 := by omega
  have hS := rightB_iff.1 h.ok.r
  have hnew : EnOk (tg + 1, (slot : Int)) := ⟨by show tg + 1 < _; omega, by show -1 ≤ (slot : Int) ∧ (slot : Int) ≤ 63; omega⟩
  have cp := eparts hold
  rw [htg, hfr'.1] at cp
  have ce := entryOf hnew
  have ch := Tg.handle_any t.who i (tg + 1) (by omega)
  have hk : Tg.hOk t.who i (tg + 1) = true := Tg.hOk_iff.2 (by have := h.ok.w8; have := h.ok.d16; omega)
  rw [hk] at ch
  have chd := header_yes (s := t.s) (a := t.a) (c := t.c) (d := t.d) (g := t.g) (k := t.k) (slot : Int) h.ok.r (be_iff.2 (by omega))
  have hhd : 0 ≤ fsI t.c t.d + (slot : Int) * ssI t.a := by
    have r := rt_of h.ok.r
    have := r.fs; have := r.sm (i := slot) (by omega); omega
  have cf := firstFree_any h
  rw [ffI_some hf] at cf
  have is := InT.start h
  have hw := h.word hi
  have hi16 : (i : Int) ≤ 15 := by have := h.ok.d16; omega
  have hne := h.ne
  have hput := fun (wr : World) (x : InT w wr P R t) => InT.put x i hnew
  have hwt : IntKind.u64.wrap ((tg : Int) + 1) = ((tg + 1 : Nat) : Int) := by rw [IntKind.wrap_u64]; omega
  obtain ⟨n, hn⟩ : ∃ n, t.A.length = n := ⟨_, rfl⟩
  rw [hn] at hi
  have hci : (i : Int) < (n : Int) := by omega
  have hcc : ∀ wr, InT w wr P R t → wr.cell? ⟨P, 0, none⟩ = some (.int .i64 t.s) ∧ wr.cell? ⟨P, 1, none⟩ = some (.int .i64 t.a) ∧ wr.cell? ⟨P, 2, none⟩ = some (.int .i64 t.c) ∧ wr.cell? ⟨P, 3, none⟩ = some (.int .i64 t.d) ∧ wr.cell? ⟨P, 4, none⟩ = some (.int .i64 t.g) ∧ wr.cell? ⟨P, 5, none⟩ = some (.int .i64 t.k) ∧ wr.cell? ⟨P, 6, none⟩ = some (.int .i64 t.who) ∧ wr.cell? ⟨P, 7, none⟩ = some (.slice (some ⟨R, 0, none⟩) n n) := fun wr x => hn ▸ x.tab.cells
  have hcw : ∀ wr, InT w wr P R t → wr.cell? ⟨R, i, none⟩ = some (.int .u64 (enW (t.A.getD i (0, 0)) : Nat)) := fun wr x => x.tab.word (by omega)
  have hcf : ∀ wr, InT w wr P R t → wr.frozen? ⟨R, i, none⟩ = false := fun wr x => x.tab.free i
  have hcp : ∀ wr, InT w wr P R t → (wr.setCell ⟨R, i, none⟩ (.int .u64 (enW (tg + 1, (slot : Int)) : Nat))).cell? ⟨P, 7, none⟩ = some (.slice (some ⟨R, 0, none⟩) n n) ∧ (wr.setCell ⟨R, i, none⟩ (.int .u64 (enW (tg + 1, (slot : Int)) : Nat))).cell? ⟨P, 6, none⟩ = some (.int .i64 t.who) := fun wr x => by
    have z := (hput wr x).tab.cells
    have e : (t.put i (tg + 1, (slot : Int))).A.length = n := by simp [Tb.put, hn]
    rw [e] at z
    exact ⟨z.2.2.2.2.2.2.2, z.2.2.2.2.2.2.1⟩
  clear hfr hold hfr' htg hk hw hn hnew hS h
  generalize enW (tg + 1, (slot : Int)) = W' at *
  generalize enW (t.A.getD i (0, 0)) = W at *
  generalize fsI t.c t.d + (slot : Int) * ssI t.a = H at *
  obtain ⟨l0, l1, l2, l3, l4, l5, l6, l7⟩ := hcc w is
  have e2 : (((tg + 1, (slot : Int)) : En).1 : Nat) = tg + 1 := rfl
  have e3 : ((tg + 1, (slot : Int)) : En).2 = (slot : Int) := rfl
  rw [e2, e3] at ce
  clear e2 e3
  generalize Tg.hW t.who i (tg + 1) = HH at *
  generalize ((tg + 1 : Nat) : Int) = tg1 at *
  generalize (slot : Int) = sl at *
  go_enter Try.func7, Try.ntmps7
  go_upto_region 7 with (first
    | (go_at_call 17; refine (chd _).mono ?_; rintro e w1 ⟨rfl, b⟩; replace is := is.below b; clear l0 l1 l2 l3 l4 l5 l6 l7 b; obtain ⟨l0, l1, l2, l3, l4, l5, l6, l7⟩ := hcc _ is; replace cf := firstFree_any is.tab; rw [ffI_some hf] at cf)
    | (go_at_call 18; refine cf.mono ?_; rintro e w1 ⟨rfl, b⟩; replace is := is.below b; clear l0 l1 l2 l3 l4 l5 l6 l7 b; obtain ⟨l0, l1, l2, l3, l4, l5, l6, l7⟩ := hcc _ is; have lw := hcw _ is)
    | (go_at_call 19; refine (cp _).mono ?_; rintro e w1 ⟨rfl, b⟩; replace is := is.below b; clear l0 l1 l2 l3 l4 l5 l6 l7 lw b; obtain ⟨l0, l1, l2, l3, l4, l5, l6, l7⟩ := hcc _ is; have lw := hcw _ is))
  replace is := is.drew
  clear l0 l1 l2 l3 l4 l5 l6 l7 lw cf cp chd
  have l7 := (hcc _ is).2.2.2.2.2.2.2
  have lf := hcf _ is
  go_region_held (fun w' => w'.cell? ⟨P, 7, none⟩ = some (.slice (some ⟨R, 0, none⟩) n n)) (first | (exact (hcc _ is).2.2.2.2.2.2.2) | (exact (hcp _ is).1)) (first
    | (go_at_call 15; with_reducible refine (ce _).mono ?_; rintro e w2 ⟨rfl, b⟩; replace is := is.below b; clear b l7 lf; have l7 := (hcc _ is).2.2.2.2.2.2.2; have lf := hcf _ is))
  have l6 := (hcp _ is).2
  replace is := hput _ is
  clear l7 lf hput hcp hcf hcc hcw ce
  generalize w2.setCell ⟨R, i, none⟩ (.int .u64 (W' : Nat)) = w3 at *
  go_wp2_with (go_at_call 20; refine (ch _).mono ?_; rintro e w4 ⟨rfl, b⟩; replace is := is.below b)
  refine bodyPost_ret (results_tmp3 rfl _ _ _) rfl ?_
  exact ⟨rfl, is.tab, is.chg⟩

set_option maxHeartbeats 400000 in
theorem take_out {P R : Nat} {t : Tb} {w : World} (h : IsTab w P R t) (slot : Int) (hs : be slot t.s = false) :
    Calls Try.prog 7 #[.pointer (some ⟨P, 0, none⟩), .int .i64 slot] w fun e w' => e = .returned (.tuple #[.int .i64 0, .int .u64 0, .bool false]) ∧ Below w.heap.size w w' := by
  have chd := header_no (s := t.s) (a := t.a) (c := t.c) (d := t.d) (g := t.g) (k := t.k) slot (by rw [hs, Bool.and_false])
  obtain ⟨l0, l1, l2, l3, l4, l5, l6, l7⟩ := h.cells
  clear h hs
  go_enter Try.func7, Try.ntmps7
  go_wp2_with (go_at_call 17; refine (chd _).mono ?_; rintro e w1 ⟨rfl, b⟩)
  refine bodyPost_ret (results_tmp3 rfl _ _ _) rfl ?_
  exact ⟨rfl, b⟩

set_option maxHeartbeats 400000 in
theorem take_full {P R : Nat} {t : Tb} {w : World} (h : IsTab w P R t) (slot : Int) (hf : ff t.A = none) :
    Calls Try.prog 7 #[.pointer (some ⟨P, 0, none⟩), .int .i64 slot] w fun e w' => e = .returned (.tuple #[.int .i64 0, .int .u64 0, .bool false]) ∧ Below w.heap.size w w' := by
  cases hs : be slot t.s
  · exact take_out h slot hs
  have chd := header_yes (s := t.s) (a := t.a) (c := t.c) (d := t.d) (g := t.g) (k := t.k) slot h.ok.r hs
  have hS := rightB_iff.1 h.ok.r
  have hb := be_iff.1 hs
  have hhd : 0 ≤ fsI t.c t.d + slot * ssI t.a := by
    have r := rt_of h.ok.r
    have := r.fs; have := r.sm (i := slot) (by omega); omega
  obtain ⟨l0, l1, l2, l3, l4, l5, l6, l7⟩ := h.cells
  have bel := Below.refl w.heap.size w
  generalize fsI t.c t.d + slot * ssI t.a = H at *
  clear hS
  go_enter Try.func7, Try.ntmps7
  go_wp2_with (first
    | (go_at_call 17; refine (chd _).mono ?_; rintro e w1 ⟨rfl, b⟩; replace h := h.below b; replace bel := seq_below bel b; have cf := firstFree_any h; rw [ffI_none hf] at cf)
    | (go_at_call 18; refine cf.mono ?_; rintro e w1 ⟨rfl, b⟩; replace bel := seq_below bel b))
  refine bodyPost_ret (results_tmp3 rfl _ _ _) rfl ?_
  exact ⟨rfl, bel⟩

/-! What Drop leaves: the entry holds none. -/
set_option maxHeartbeats 2000000 in
theorem drop_in {P R : Nat} {t : Tb} {w : World} (h : IsTab w P R t) (i : Nat) (hi : i < t.A.length) {x : En} (hx : t.A.getD i (0, 0) = x) :
    Calls Try.prog 9 #[.pointer (some ⟨P, 0, none⟩), .int .i64 (i : Nat)] w fun e w' => e = .returned (.bool (decide (x.2 ≠ -1))) ∧ IsTab w' P R (t.put i (x.1, -1)) ∧ Chg [R] w w' := by
  have hold := h.ok.at hi
  rw [hx] at hold
  have hnew : EnOk (x.1, (-1 : Int)) := ⟨hold.t, by show -1 ≤ (-1 : Int) ∧ (-1 : Int) ≤ 63; omega⟩
  have cp := eparts hold
  have ce := entryOf hnew
  have chs := fun wr (y : IsTab wr P R t) => has_any y (i : Int)
  rw [be_iff.2 (by omega)] at chs
  have is := InT.start h
  have hi16 : (i : Int) ≤ 15 := by have := h.ok.d16; omega
  have hput := fun (wr : World) (x : InT w wr P R t) => InT.put x i hnew
  obtain ⟨n, hn⟩ : ∃ n, t.A.length = n := ⟨_, rfl⟩
  have hci : (i : Int) < (n : Int) := by omega
  have hcc : ∀ wr, InT w wr P R t → wr.cell? ⟨P, 7, none⟩ = some (.slice (some ⟨R, 0, none⟩) n n) := fun wr x => hn ▸ x.tab.cells.2.2.2.2.2.2.2
  have hcw : ∀ wr, InT w wr P R t → wr.cell? ⟨R, i, none⟩ = some (.int .u64 (enW x : Nat)) := fun wr y => hx ▸ y.tab.word hi
  have hcf : ∀ wr, InT w wr P R t → wr.frozen? ⟨R, i, none⟩ = false := fun wr x => x.tab.free i
  have hcp : ∀ wr, InT w wr P R t → (wr.setCell ⟨R, i, none⟩ (.int .u64 (enW (x.1, (-1 : Int)) : Nat))).cell? ⟨P, 7, none⟩ = some (.slice (some ⟨R, 0, none⟩) n n) := fun wr y => by
    have z := (hput wr y).tab.cells
    have e : (t.put i (x.1, (-1 : Int))).A.length = n := by simp [Tb.put, hn]
    rw [e] at z
    exact z.2.2.2.2.2.2.2
  have ch := chs _ h
  clear hold hn hnew h hx hi chs
  generalize enW (x.1, (-1 : Int)) = W' at *
  generalize enW x = W at *
  have l7 := hcc w is
  have lw := hcw w is
  have e2 : ((x.1, (-1 : Int)) : En).1 = x.1 := rfl
  have e3 : ((x.1, (-1 : Int)) : En).2 = -1 := rfl
  rw [e2, e3] at ce
  clear e2 e3
  have hd : (x.2 != -1) = decide (x.2 ≠ -1) := by by_cases e : x.2 = -1 <;> simp [e]
  rw [← hd]
  clear hd
  obtain ⟨tg, htg⟩ : ∃ tg, x.1 = tg := ⟨_, rfl⟩
  obtain ⟨y, hy⟩ : ∃ y, x.2 = y := ⟨_, rfl⟩
  rw [htg] at cp ce hput ⊢
  rw [hy] at cp ⊢
  clear htg hy
  go_enter Try.func9, Try.ntmps9
  go_upto_region 4 with (first
    | (go_at_call 21; refine ch.mono ?_; rintro e w1 ⟨rfl, rfl⟩)
    | (go_at_call 19; refine (cp _).mono ?_; rintro e w1 ⟨rfl, b⟩; replace is := is.below b; clear l7 lw b; have l7 := hcc _ is))
  replace is := is.drew
  clear l7 cp ch
  have l7 := hcc _ is
  have lf := hcf _ is
  go_region_held (fun w' => w'.cell? ⟨P, 7, none⟩ = some (.slice (some ⟨R, 0, none⟩) n n)) (first | (exact hcc _ is) | (exact hcp _ is)) (first
    | (go_at_call 15; with_reducible refine (ce _).mono ?_; rintro e w2 ⟨rfl, b⟩; replace is := is.below b; clear b l7 lf; have l7 := hcc _ is; have lf := hcf _ is))
  replace is := hput _ is
  clear l7 lf hput hcp hcf hcc hcw ce
  generalize w2.setCell ⟨R, i, none⟩ (.int .u64 (W' : Nat)) = w3 at *
  go_wp2
  go_ret
  exact ⟨rfl, is.tab, is.chg⟩

theorem drop_out {P R : Nat} {t : Tb} {w : World} (h : IsTab w P R t) (i : Int) (hi : be i t.A.length = false) :
    Calls Try.prog 9 #[.pointer (some ⟨P, 0, none⟩), .int .i64 i] w fun e w' => e = .returned (.bool false) ∧ w = w' := by
  have c := has_any h i
  rw [hi] at c
  go_enter Try.func9, Try.ntmps9
  go_wp2_with (go_at_call 21; refine c.mono ?_; rintro e w1 ⟨rfl, rfl⟩)
  go_ret
  exact ⟨rfl, rfl⟩
end Go.Proofs.Ytnegdabcjnhpdaa
