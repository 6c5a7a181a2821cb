/- Layer 19: takes. -/
import Derived.Test.YtecppcakgfohbabHE
import Derived.Test.YtecppcakgfohbabGV
import Derived.Test.YtecppcakgfohbabHH
import Derived.Shelf.Lay
import Derived.Shelf.SlicesE.Index
import Derived.Ground.SlgnProg
import Derived.Test.YtecppcakgfohbabHK
import Derived.ArgAppend
import Derived.Maps.AppendAt
import Derived.Laws.AppendOwnNone
namespace Go.Proofs.Ytecppcakgfohbab
open Go.RowKit
set_option linter.unusedSimpArgs false
set_option linter.unusedVariables false

/-- Handles are words. -/
def Ev.In (e : Ev) : Prop := e.hh < 18446744073709551616 ∧ e.hx < 18446744073709551616 ∧ e.hy < 18446744073709551616 ∧ e.ah < 18446744073709551616
def evS (C : Cg) (X : Sx) (e : Ev) : Option Sx := dsO C X e.cl e.kd e.nn e.hh e.hx e.hy e.er e.ah e.ay
theorem evS_inv {C : Cg} {X : Sx} {N : Nat} (iv : X.Inv N) (hC : X.W.length = C.c) (hCa : C.a ≤ 8) {e : Ev} (he : e.In) : ((evS C X e).getD X).Inv (N + 1) := inv_get iv hC hCa he.2.2.2
set_option maxRecDepth 100000 in
set_option maxHeartbeats 2000000 in
theorem takes_ev {w : World} {B : Nat} {L : Nat → Prop} {C : Cg} {n : Nat} {X : Sx} (h : IsM w B L C n X) (hL : ∀ i, L i → i < w.heap.size) {N : Nat} (iv : X.Inv N) (hN : N < 1000000) (hn : n < 1000000) (hCa : C.a ≤ 8) (e : Ev) (he : e.In) :
    Calls Try.prog 24 #[.pointer (some ⟨B, 0, none⟩), .agg e.row] w fun r w' => r = .returned (.bool (evS C X e).isSome) ∧ IsM w' B (Lup L w w') C (n + 2) ((evS C X e).getD X) ∧ Chg L w w' := by
  have bel := alloc_below w (.cells e.row 43)
  have hq := new_obj w (.cells e.row 43)
  have cD := does_M (h.below bel) (fun i hi => Nat.lt_of_lt_of_le (hL i hi) bel.size) iv hN hn hCa e.cl e.kd e.nn he.1 he.2.1 he.2.2.1 e.er he.2.2.2 e.ay
  obtain ⟨o, ho⟩ : ∃ o, evS C X e = o := ⟨_, rfl⟩
  rw [show dsO C X e.cl e.kd e.nn e.hh e.hx e.hy e.er e.ah e.ay = o from ho] at cD
  rw [ho]
  replace cD := hid1 cD
  clear h hL iv ho
  unfold Ev.row at *
  go_enter Try.func24, Try.ntmps24
  go_upto_region 1 with fail
  generalize World.alloc _ _ = w1 at *
  obtain ⟨bq, hbq⟩ : ∃ bq, w.heap.size = bq := ⟨_, rfl⟩
  rw [hbq] at hq
  rw [hbq]
  have x0 : w1.cell? ⟨bq, 0, none⟩ = some (.int .i64 e.cl) := by simp [World.cell?, hq]
  have x6 : w1.cell? ⟨bq, 6, none⟩ = some (.int .i64 e.kd) := by simp [World.cell?, hq]
  have x7 : w1.cell? ⟨bq, 7, none⟩ = some (.int .i64 e.nn) := by simp [World.cell?, hq]
  have x8 : w1.cell? ⟨bq, 8, none⟩ = some (.int .u64 (e.hh : Nat)) := by simp [World.cell?, hq]
  have x9 : w1.cell? ⟨bq, 9, none⟩ = some (.int .u64 (e.hx : Nat)) := by simp [World.cell?, hq]
  have x10 : w1.cell? ⟨bq, 10, none⟩ = some (.int .u64 (e.hy : Nat)) := by simp [World.cell?, hq]
  have x11 : w1.cell? ⟨bq, 11, none⟩ = some (.int .i64 e.er) := by simp [World.cell?, hq]
  have x12 : w1.cell? ⟨bq, 12, none⟩ = some (.int .u64 (e.ah : Nat)) := by simp [World.cell?, hq]
  have x13 : w1.cell? ⟨bq, 13, none⟩ = some (.bool e.ay) := by simp [World.cell?, hq]
  clear hq
  go_wp2_with (go_at_call 38; with_reducible refine cD.out.mono ?_; rintro r w2 ⟨rfl, h2, c2⟩)
  go_ret
  exact ⟨rfl, h2.up (fun i q => Lup.under bel q), (Chg.of_below bel).trans (c2.widen bel)⟩
end Go.Proofs.Ytecppcakgfohbab
/- Layer 19: Replay. -/
namespace Go.Proofs.Ytecppcakgfohbab
open Go.RowKit
set_option linter.unusedSimpArgs false
set_option linter.unusedVariables false

/-- How many of an order a state takes. -/
def repF (C : Cg) (E : List Ev) : List Int → Sx → Nat
  | [], _ => 0
  | z :: l, X => if 0 ≤ z ∧ z < E.length then (match evS C X (E.getD z.toNat default) with
      | some X' => repF C E l X' + 1
      | none => 0) else 0
theorem repF_front (C : Cg) (E : List Ev) : ∀ (Z : List Int) (X : Sx) (k : Nat), k ≤ Z.length → repF C E (Z.take k) X = min k (repF C E Z X)
  | [], _, k, h => by simp [repF]
  | z :: l, X, 0, h => by simp [repF]
  | z :: l, X, k + 1, h => by
    rw [List.take_succ_cons]
    unfold repF
    split
    · cases evS C X (E.getD z.toNat default) with
      | none => simp
      | some X' =>
        show repF C E (l.take k) X' + 1 = min (k + 1) (repF C E l X' + 1)
        rw [repF_front C E l X' k (by simpa using h)]
        omega
    · simp
theorem repF_le (C : Cg) (E : List Ev) : ∀ (Z : List Int) (X : Sx), repF C E Z X ≤ Z.length
  | [], _ => Nat.le_refl _
  | z :: l, X => by
    unfold repF
    split
    · cases evS C X (E.getD z.toNat default) with
      | none => exact Nat.zero_le _
      | some X' => exact Nat.succ_le_succ (repF_le C E l X')
    · exact Nat.zero_le _
theorem takes_Lb {b : Nat} {w0 w : World} {B : Nat} {C : Cg} {n : Nat} {X : Sx} (h : IsM w B (Lb b w) C n X) (b0 : Below b w0 w) (hb : b ≤ w0.heap.size) {N : Nat} (iv : X.Inv N) (hN : N < 1000000) (hn : n < 1000000) (hCa : C.a ≤ 8) (e : Ev) (he : e.In) :
    Calls Try.prog 24 #[.pointer (some ⟨B, 0, none⟩), .agg e.row] w fun r w' => r = .returned (.bool (evS C X e).isSome) ∧ IsM w' B (Lb b w') C (n + 2) ((evS C X e).getD X) ∧ Below b w0 w' :=
  (takes_ev h (fun _ hi => hi.2) iv hN hn hCa e he).mono fun _ _ ⟨h1, h2, h3⟩ =>
    ⟨h1, h2.up (Lb.lup (Nat.le_trans hb b0.size) h3.size), h3.below b0 (fun _ hi => hi.1) hb⟩
theorem IsM.nc {w : World} {B : Nat} {L : Nat → Prop} {C : Cg} {n : Nat} {X : Sx} (h : IsM w B L C n X) : X.W.length = C.c := by obtain ⟨m, h⟩ := h; exact h.nc
set_option maxRecDepth 100000 in
set_option maxHeartbeats 4000000 in
theorem replay_yes {w : World} (C : Cg) (hR : rightB C.s C.a (C.c : Nat) C.d C.g C.k = true) {ad ao : Option Addr} {E : List Ev} {Z : List Int} (cap capo : Nat) (hE : RdEv w ad E) (hI : ∀ e ∈ E, e.In) (hZ : RdZ w ao Z) (hl : Z.length ≤ 100000) :
    Calls Try.prog 14 #[.agg (cs C.s C.a (C.c : Nat) C.d C.g C.k), .slice ad E.length cap, .slice ao Z.length capo] w fun r w' => r = .returned (.int .i64 (repF C E Z (sx0 C.c) : Nat)) ∧ Below w.heap.size w w' := by
  obtain ⟨lZ, hlZ⟩ : ∃ l, Z.length = l := ⟨_, rfl⟩
  obtain ⟨lE, hlE⟩ : ∃ l, E.length = l := ⟨_, rfl⟩
  obtain ⟨R, hRF⟩ : ∃ R, repF C E Z (sx0 C.c) = R := ⟨_, rfl⟩
  rw [hlZ, hlE, hRF]
  rw [hlZ] at hl
  have hCa : C.a ≤ 8 := (rightB_iff.1 hR).2.1.2
  have bx := alloc_below w (.cells (cs C.s C.a (C.c : Nat) C.d C.g C.k) 23)
  have cN := fun w0 => new_yes C hR w0
  replace hlZ := hid1 hlZ
  replace hlE := hid1 hlE
  replace hRF := hid1 hRF
  replace hE := hid1 hE
  replace hI := hid1 hI
  replace hZ := hid1 hZ
  replace hl := hid1 hl
  clear hR
  go_enter Try.func14, Try.ntmps14
  go_upto_region 3 with (go_at_call 23; with_reducible refine (cN _).mono ?_; rintro r w2 ⟨B, rfl, b2, m2⟩)
  have B2 := seq_below bx b2
  have h0 : Hid (IsM w2 B (Lb w.heap.size w2) C (2 * 0) (sx0 C.c) ∧ (sx0 C.c).Inv 0 ∧ Below w.heap.size w w2 ∧ repF C E (Z.drop 0) (sx0 C.c) + 0 = R) := hid1 ⟨m2.up fun i hi => ⟨Nat.le_trans bx.size hi.1, hi.2⟩, sx0_inv C.c, B2, hRF.out⟩
  clear cN bx b2 m2 B2 hRF
  go_loopg [8, 9, 14] lZ (fun g1 _ _ vi wr => ∃ (k : Nat) (X : Sx), vi = .int .i64 k ∧ k ≤ lZ ∧ lZ - k ≤ g1 ∧ Hid (IsM wr B (Lb w.heap.size wr) C (2 * k) X ∧ X.Inv k ∧ Below w.heap.size w wr ∧ repF C E (Z.drop k) X + k = R))
  case atStart => exact ⟨0, _, rfl, Nat.zero_le _, by omega, h0⟩
  case round =>
    clear h0
    obtain ⟨k, X, rfl, hk, hg1, I⟩ := hrel
    by_cases hlt : k < lZ
    · have hltz : (k : Int) < (lZ : Int) := by omega
      obtain ⟨z, hz⟩ : ∃ z, Z[k]? = some z := ⟨_, List.getElem?_eq_getElem (by have := hlZ.out; omega)⟩
      obtain ⟨bo, oo, hao, hbo, hco⟩ := hZ.out k z hz
      subst hao
      have x1 : wr.cell? ⟨bo, oo + k, none⟩ = some (.int .i64 z) := (I.out.2.2.1.cell (p := ⟨bo, oo + k, none⟩) hbo).trans hco
      have hdr : Z.drop k = z :: Z.drop (k + 1) := by rw [List.drop_eq_getElem_cons (by have := hlZ.out; omega)]; congr 1; have e := hz; rw [List.getElem?_eq_getElem (by have := hlZ.out; omega)] at e; exact Option.some.inj e
      have hrr := I.out.2.2.2
      rw [hdr] at hrr
      unfold repF at hrr
      clear hdr hbo hco
      replace hz := hid1 hz
      by_cases z0 : z < 0
      · rw [if_neg (by omega)] at hrr
        obtain rfl : k = R := by omega
        go_wp2
        go_ret
        exact ⟨rfl, I.out.2.2.1⟩
      have z0' : 0 ≤ z := by omega
      obtain ⟨q, rfl⟩ := Int.eq_ofNat_of_zero_le z0'
      by_cases z1 : (lE : Int) ≤ (q : Int)
      · rw [if_neg (by have := hlE.out; omega)] at hrr
        obtain rfl : k = R := by omega
        go_wp2
        go_ret
        exact ⟨rfl, I.out.2.2.1⟩
      have z2 : (q : Int) < (lE : Int) := by omega
      rw [if_pos (by have := hlE.out; omega), Int.toNat_natCast] at hrr
      obtain ⟨e, he⟩ : ∃ e, E[q]? = some e := ⟨_, List.getElem?_eq_getElem (by have := hlE.out; omega)⟩
      have hge : E.getD q default = e := by rw [List.getD_eq_getElem?_getD, he]; rfl
      rw [hge] at hrr
      obtain ⟨be, oe, had, hbe, hce⟩ := hE.out q e he
      subst had
      have hIe := hI.out e (List.mem_of_getElem? he)
      have hcw : ∀ p, p < 14 → wr.cell? ⟨be, oe + q * 14 + p, none⟩ = e.row[p]? := fun p hp => (I.out.2.2.1.cell (p := ⟨be, oe + q * 14 + p, none⟩) hbe).trans (hce p hp)
      have c0 : wr.cell? ⟨be, oe + q * 14, none⟩ = some (.int .i64 e.cl) := hcw 0 (by decide)
      have c1 : wr.cell? ⟨be, oe + q * 14 + 1, none⟩ = some (.int .i64 e.op) := hcw 1 (by decide)
      have c2 : wr.cell? ⟨be, oe + q * 14 + 2, none⟩ = some (.int .i64 e.bg) := hcw 2 (by decide)
      have c3 : wr.cell? ⟨be, oe + q * 14 + 3, none⟩ = some (.int .i64 e.pt) := hcw 3 (by decide)
      have c4 : wr.cell? ⟨be, oe + q * 14 + 4, none⟩ = some (.int .i64 e.en) := hcw 4 (by decide)
      have c5 : wr.cell? ⟨be, oe + q * 14 + 5, none⟩ = some (.bool e.bh) := hcw 5 (by decide)
      have c6 : wr.cell? ⟨be, oe + q * 14 + 6, none⟩ = some (.int .i64 e.kd) := hcw 6 (by decide)
      have c7 : wr.cell? ⟨be, oe + q * 14 + 7, none⟩ = some (.int .i64 e.nn) := hcw 7 (by decide)
      have c8 : wr.cell? ⟨be, oe + q * 14 + 8, none⟩ = some (.int .u64 (e.hh : Nat)) := hcw 8 (by decide)
      have c9 : wr.cell? ⟨be, oe + q * 14 + 9, none⟩ = some (.int .u64 (e.hx : Nat)) := hcw 9 (by decide)
      have c10 : wr.cell? ⟨be, oe + q * 14 + 10, none⟩ = some (.int .u64 (e.hy : Nat)) := hcw 10 (by decide)
      have c11 : wr.cell? ⟨be, oe + q * 14 + 11, none⟩ = some (.int .i64 e.er) := hcw 11 (by decide)
      have c12 : wr.cell? ⟨be, oe + q * 14 + 12, none⟩ = some (.int .u64 (e.ah : Nat)) := hcw 12 (by decide)
      have c13 : wr.cell? ⟨be, oe + q * 14 + 13, none⟩ = some (.bool e.ay) := hcw 13 (by decide)
      have ct := takes_Lb I.out.1 I.out.2.2.1 (Nat.le_refl _) I.out.2.1 (by have := hl.out; omega) (by have := hl.out; omega) hCa e hIe
      have hiv := evS_inv I.out.2.1 I.out.1.nc hCa hIe
      unfold Ev.row at ct
      clear hcw hce hbe hge
      replace he := hid1 he
      replace hiv := hid1 hiv
      cases ho : evS C X e with
      | none =>
        rw [ho] at ct hrr
        replace ct := hid1 ct
        obtain rfl : k = R := by simpa using hrr
        go_wp2_with (go_at_call 24; with_reducible refine ct.out.mono ?_; rintro r w5 ⟨rfl, m5, b5⟩)
        go_ret
        exact ⟨rfl, b5⟩
      | some X' =>
        rw [ho] at ct hrr
        replace ct := hid1 ct
        have hiv2 : X'.Inv (k + 1) := by have := hiv.out; rw [ho] at this; exact this
        have hrr2 := hid1 (show repF C E (Z.drop (k + 1)) X' + (k + 1) = R from by have : repF C E (Z.drop (k + 1)) X' + 1 + k = R := hrr; omega)
        replace hiv2 := hid1 hiv2
        clear hrr I hiv
        go_wp2_with (go_at_call 24; with_reducible refine ct.out.mono ?_; rintro r w5 ⟨rfl, m5, b5⟩; replace m5 := hid1 m5; replace b5 := hid1 b5)
        go_roundg (lZ - (k + 1))
        case measure => omega
        case rel => exact ⟨k + 1, X', congrArg (Value.int .i64) (by have := hl.out; rw [IntWalk.wrap64_in _ (by omega)]; omega), by omega, Nat.le_refl _, hid1 ⟨m5.out, hiv2.out, b5.out, hrr2.out⟩⟩
    · obtain rfl : k = lZ := by omega
      have hltz : ¬ (k : Int) < (k : Int) := by omega
      have hrr := I.out.2.2.2
      rw [List.drop_eq_nil_of_le (by have := hlZ.out; omega)] at hrr
      replace hrr : 0 + k = R := hrr
      obtain rfl : k = R := by omega
      have bI := hid1 I.out.2.2.1
      clear I
      go_wp2
      go_ret
      exact ⟨rfl, bI.out⟩
theorem ldoes_nil (who kd cN cH cX cY aE aH : Int) (aY : Bool) (w : World) : Calls Try.prog 38 #[.pointer none, .int .i64 who, .agg #[.int .i64 kd, .int .i64 cN, .int .u64 cH, .int .u64 cX, .int .u64 cY], .agg #[.int .i64 aE, .int .u64 aH, .bool aY]] w fun r w' => r = .returned (.bool false) ∧ Below w.heap.size w w' := by
  have cH0 := has_nil who
  have b1 := alloc_below w (.cells #[.int .i64 kd, .int .i64 cN, .int .u64 cH, .int .u64 cX, .int .u64 cY] 41)
  have b2 := alloc_below (w.alloc (.cells #[.int .i64 kd, .int .i64 cN, .int .u64 cH, .int .u64 cX, .int .u64 cY] 41)) (.cells #[.int .i64 aE, .int .u64 aH, .bool aY] 39)
  have bel := seq_below b1 b2
  go_enter Try.func38, Try.ntmps38
  go_wp2_with (go_at_call 51; with_reducible refine (cH0 _).mono ?_; rintro r w2 ⟨rfl, rfl⟩)
  go_ret
  exact ⟨rfl, bel⟩
set_option maxRecDepth 100000 in
set_option maxHeartbeats 2000000 in
theorem takes_nil (e : Ev) (w : World) : Calls Try.prog 24 #[.pointer none, .agg e.row] w fun r w' => r = .returned (.bool false) ∧ Below w.heap.size w w' := by
  have bel := alloc_below w (.cells e.row 43)
  have hq := new_obj w (.cells e.row 43)
  unfold Ev.row at *
  go_enter Try.func24, Try.ntmps24
  go_upto_region 1 with fail
  generalize World.alloc _ _ = w1 at *
  obtain ⟨bq, hbq⟩ : ∃ bq, w.heap.size = bq := ⟨_, rfl⟩
  rw [hbq] at hq
  rw [hbq]
  have x0 : w1.cell? ⟨bq, 0, none⟩ = some (.int .i64 e.cl) := by simp [World.cell?, hq]
  have x6 : w1.cell? ⟨bq, 6, none⟩ = some (.int .i64 e.kd) := by simp [World.cell?, hq]
  have x7 : w1.cell? ⟨bq, 7, none⟩ = some (.int .i64 e.nn) := by simp [World.cell?, hq]
  have x8 : w1.cell? ⟨bq, 8, none⟩ = some (.int .u64 (e.hh : Nat)) := by simp [World.cell?, hq]
  have x9 : w1.cell? ⟨bq, 9, none⟩ = some (.int .u64 (e.hx : Nat)) := by simp [World.cell?, hq]
  have x10 : w1.cell? ⟨bq, 10, none⟩ = some (.int .u64 (e.hy : Nat)) := by simp [World.cell?, hq]
  have x11 : w1.cell? ⟨bq, 11, none⟩ = some (.int .i64 e.er) := by simp [World.cell?, hq]
  have x12 : w1.cell? ⟨bq, 12, none⟩ = some (.int .u64 (e.ah : Nat)) := by simp [World.cell?, hq]
  have x13 : w1.cell? ⟨bq, 13, none⟩ = some (.bool e.ay) := by simp [World.cell?, hq]
  clear hq
  replace hbq := hid1 hbq
  go_wp2_with (go_at_call 38; with_reducible refine (ldoes_nil _ _ _ _ _ _ _ _ _ _).mono ?_; rintro r w2 ⟨rfl, b2⟩)
  go_ret
  exact ⟨rfl, bel.trans (b2.mono bel.size)⟩
set_option maxRecDepth 100000 in
set_option maxHeartbeats 4000000 in
theorem replay_no {w : World} (s a c d g k0 : Int) (hR : rightB s a c d g k0 = false) {ad ao : Option Addr} {E : List Ev} {Z : List Int} (cap capo : Nat) (hE : RdEv w ad E) (hZ : RdZ w ao Z) :
    Calls Try.prog 14 #[.agg (cs s a c d g k0), .slice ad E.length cap, .slice ao Z.length capo] w fun r w' => r = .returned (.int .i64 0) ∧ Below w.heap.size w w' := by
  obtain ⟨lZ, hlZ⟩ : ∃ l, Z.length = l := ⟨_, rfl⟩
  obtain ⟨lE, hlE⟩ : ∃ l, E.length = l := ⟨_, rfl⟩
  rw [hlZ, hlE]
  have bx := alloc_below w (.cells (cs s a c d g k0) 23)
  have cN := fun w0 => new_no s a c d g k0 hR w0
  replace hlZ := hid1 hlZ
  replace hlE := hid1 hlE
  replace hE := hid1 hE
  replace hZ := hid1 hZ
  clear hR
  go_enter Try.func14, Try.ntmps14
  go_upto_region 3 with (go_at_call 23; with_reducible refine (cN _).mono ?_; rintro r w2 ⟨rfl, b2⟩)
  have B2 := hid1 (seq_below bx b2)
  clear cN bx b2
  go_loopg [8, 9, 14] lZ (fun g1 _ _ vi wr => vi = .int .i64 0 ∧ Hid (Below w.heap.size w wr))
  case atStart => exact ⟨rfl, B2⟩
  case round =>
    clear B2
    obtain ⟨rfl, I⟩ := hrel
    by_cases hlt : 0 < lZ
    · have hltz : (0 : Int) < (lZ : Int) := by omega
      obtain ⟨z, hz⟩ : ∃ z, Z[0]? = some z := ⟨_, List.getElem?_eq_getElem (by have := hlZ.out; omega)⟩
      obtain ⟨bo, oo, hao, hbo, hco⟩ := hZ.out 0 z hz
      subst hao
      have x1 : wr.cell? ⟨bo, oo, none⟩ = some (.int .i64 z) := (I.out.cell (p := ⟨bo, oo + 0, none⟩) hbo).trans hco
      clear hbo hco
      replace hz := hid1 hz
      by_cases z0 : z < 0
      · go_wp2
        go_ret
        exact ⟨rfl, I.out⟩
      have z0' : 0 ≤ z := by omega
      obtain ⟨q, rfl⟩ := Int.eq_ofNat_of_zero_le z0'
      by_cases z1 : (lE : Int) ≤ (q : Int)
      · go_wp2
        go_ret
        exact ⟨rfl, I.out⟩
      have z2 : (q : Int) < (lE : Int) := by omega
      obtain ⟨e, he⟩ : ∃ e, E[q]? = some e := ⟨_, List.getElem?_eq_getElem (by have := hlE.out; omega)⟩
      obtain ⟨be, oe, had, hbe, hce⟩ := hE.out q e he
      subst had
      have hcw : ∀ p, p < 14 → wr.cell? ⟨be, oe + q * 14 + p, none⟩ = e.row[p]? := fun p hp => (I.out.cell (p := ⟨be, oe + q * 14 + p, none⟩) hbe).trans (hce p hp)
      have c0 : wr.cell? ⟨be, oe + q * 14, none⟩ = some (.int .i64 e.cl) := hcw 0 (by decide)
      have c1 : wr.cell? ⟨be, oe + q * 14 + 1, none⟩ = some (.int .i64 e.op) := hcw 1 (by decide)
      have c2 : wr.cell? ⟨be, oe + q * 14 + 2, none⟩ = some (.int .i64 e.bg) := hcw 2 (by decide)
      have c3 : wr.cell? ⟨be, oe + q * 14 + 3, none⟩ = some (.int .i64 e.pt) := hcw 3 (by decide)
      have c4 : wr.cell? ⟨be, oe + q * 14 + 4, none⟩ = some (.int .i64 e.en) := hcw 4 (by decide)
      have c5 : wr.cell? ⟨be, oe + q * 14 + 5, none⟩ = some (.bool e.bh) := hcw 5 (by decide)
      have c6 : wr.cell? ⟨be, oe + q * 14 + 6, none⟩ = some (.int .i64 e.kd) := hcw 6 (by decide)
      have c7 : wr.cell? ⟨be, oe + q * 14 + 7, none⟩ = some (.int .i64 e.nn) := hcw 7 (by decide)
      have c8 : wr.cell? ⟨be, oe + q * 14 + 8, none⟩ = some (.int .u64 (e.hh : Nat)) := hcw 8 (by decide)
      have c9 : wr.cell? ⟨be, oe + q * 14 + 9, none⟩ = some (.int .u64 (e.hx : Nat)) := hcw 9 (by decide)
      have c10 : wr.cell? ⟨be, oe + q * 14 + 10, none⟩ = some (.int .u64 (e.hy : Nat)) := hcw 10 (by decide)
      have c11 : wr.cell? ⟨be, oe + q * 14 + 11, none⟩ = some (.int .i64 e.er) := hcw 11 (by decide)
      have c12 : wr.cell? ⟨be, oe + q * 14 + 12, none⟩ = some (.int .u64 (e.ah : Nat)) := hcw 12 (by decide)
      have c13 : wr.cell? ⟨be, oe + q * 14 + 13, none⟩ = some (.bool e.ay) := hcw 13 (by decide)
      have ct := fun w0 => takes_nil e w0
      unfold Ev.row at ct
      clear hcw hce hbe
      replace he := hid1 he
      replace ct := hid1 ct
      go_wp2_with (go_at_call 24; with_reducible refine (ct.out _).mono ?_; rintro r w5 ⟨rfl, b5⟩)
      go_ret
      exact ⟨rfl, seq_below I.out b5⟩
    · obtain rfl : lZ = 0 := by omega
      go_wp2
      go_ret
      exact ⟨rfl, I.out⟩
end Go.Proofs.Ytecppcakgfohbab
/- slices.Contains of numbers. -/
namespace Go.Proofs
open Go.Shelf
shelf_lay_g SlLaysE.n31 Slgn 31 at Try 63 as Try.containsI
end Go.Proofs
namespace Go.Proofs.Ytecppcakgfohbab
open Go.RowKit Go.Shelf
theorem contains_Z {w : World} {v : Value} {xs : List Int} (h : IsZ w v xs) (x : Int) :
    Calls Try.prog 63 #[v, .int .i64 x] w fun r w' => r = .returned (.bool (decide (x ∈ xs))) ∧ w = w' := by
  have em : ∀ ys : List Int, (ys.any fun y => x == y) = decide (x ∈ ys) := fun ys => by
    rw [Bool.eq_iff_iff, List.any_eq_true, decide_eq_true_eq]
    constructor
    · rintro ⟨y, hy, e⟩; rw [eq_of_beq e]; exact hy
    · exact fun hx => ⟨x, hx, beq_self_eq_true x⟩
  rcases h with ⟨rfl, rfl⟩ | ⟨g, off, cap, cur, rfl, hh, h2, h3, h4, hc⟩
  · have c : Calls Try.prog 63 #[.slice none 0 0, .int .i64 x] w fun r w' => r = .returned (.bool false) ∧ w' = w := AnyE.slices_Contains_empty Try.containsI none 0 (.int .i64 x) w
    refine c.mono ?_
    rintro r w' ⟨rfl, rfl⟩
    exact ⟨by simp, rfl⟩
  · have c : Calls Try.prog 63 #[.slice (some ⟨g, off, none⟩) xs.length cap, .int .i64 x] w fun r w' => r = .returned (.bool ((xs.take xs.length).any fun y => x == y)) ∧ w' = w :=
      AnyE.slices_Contains Try.containsI (Value.int .i64) _ (EqlAt.int _ _ .i64) g off xs.length cap xs x w (Nat.le_refl _) (by unfold maxLen at h3; omega) (fun j hj => by
        simp only [World.cell?, hh]
        show cur[off + j]? = _
        rw [hc j hj, getElem!_pos xs j hj, List.getD_eq_getElem?_getD, List.getElem?_eq_getElem hj]
        rfl)
    refine c.mono ?_
    rintro r w' ⟨rfl, rfl⟩
    rw [List.take_length, em]
    exact ⟨rfl, rfl⟩
end Go.Proofs.Ytecppcakgfohbab
/- The search for an order, no Go in sight. -/
namespace Go.Proofs.Ytecppcakgfohbab
open Go.RowKit
set_option linter.unusedSimpArgs false
set_option linter.unusedVariables false

def evD (E : List Ev) (i : Nat) : Ev := E.getD i default
theorem evD_at {E : List Ev} {i : Nat} {e : Ev} (h : E[i]? = some e) : evD E i = e := by unfold evD; rw [List.getD_eq_getElem?_getD, h]; rfl
theorem at_evD {E : List Ev} {i : Nat} (h : i < E.length) : E[i]? = some (evD E i) := by unfold evD; rw [List.getD_eq_getElem?_getD, List.getElem?_eq_getElem h]; rfl
/-- What a state comes to by an order, if it takes all of it. -/
def rsX (C : Cg) (E : List Ev) : List Nat → Sx → Option Sx
  | [], X => some X
  | i :: l, X => match evS C X (evD E i) with
      | some X' => rsX C E l X'
      | none => none
theorem rsX_app (C : Cg) (E : List Ev) : ∀ (A B : List Nat) (X : Sx), rsX C E (A ++ B) X = (rsX C E A X).bind fun X' => rsX C E B X'
  | [], B, X => rfl
  | i :: A, B, X => by
    simp only [List.cons_append, rsX]
    cases evS C X (evD E i) with
    | none => rfl
    | some X' => exact rsX_app C E A B X'
theorem rsX_one (C : Cg) (E : List Ev) (i : Nat) (X : Sx) : rsX C E [i] X = evS C X (evD E i) := by
  unfold rsX
  cases evS C X (evD E i) <;> rfl
theorem rsX_snoc {C : Cg} {E : List Ev} {O : List Nat} {i : Nat} {X X' X'' : Sx} (h : rsX C E O X = some X') (h2 : evS C X' (evD E i) = some X'') : rsX C E (O ++ [i]) X = some X'' := by
  rw [rsX_app, h]
  show rsX C E [i] X' = _
  rw [rsX_one, h2]
theorem rsX_front {C : Cg} {E : List Ev} {A B : List Nat} {X : Sx} (h : (rsX C E (A ++ B) X).isSome = true) : (rsX C E A X).isSome = true := by
  rw [rsX_app] at h
  cases hA : rsX C E A X with
  | none => rw [hA] at h; cases h
  | some _ => rfl
theorem rep_rs (C : Cg) (E : List Ev) : ∀ (P : List Nat) (X : Sx), (∀ i ∈ P, i < E.length) → (repF C E (P.map fun (x : Nat) => (x : Int)) X = P.length ↔ (rsX C E P X).isSome = true)
  | [], X, _ => by simp [repF, rsX]
  | i :: P, X, h => by
    have hi := h i (List.mem_cons_self ..)
    show repF C E ((i : Int) :: P.map fun (x : Nat) => (x : Int)) X = P.length + 1 ↔ _
    unfold repF rsX
    rw [if_pos ⟨by omega, by omega⟩, Int.toNat_natCast]
    show (match evS C X (evD E i) with | some X' => repF C E (P.map fun (x : Nat) => (x : Int)) X' + 1 | none => 0) = _ ↔ _
    cases evS C X (evD E i) with
    | none => simp
    | some X' =>
      have := rep_rs C E P X' fun j hj => h j (List.mem_cons_of_mem _ hj)
      show repF C E _ X' + 1 = P.length + 1 ↔ (rsX C E P X').isSome = true
      rw [← this]
      omega
/-- May an event come behind a beginning of an order? -/
def mayB (E : List Ev) (O : List Nat) (i : Nat) : Bool := decide (i ∉ O ∧ ∀ j, j < E.length → j ≠ i → ahB (evD E j) (evD E i) = true → j ∈ O)
theorem mayB_iff {E : List Ev} {O : List Nat} {i : Nat} : mayB E O i = true ↔ i ∉ O ∧ ∀ j, j < E.length → j ≠ i → ahB (evD E j) (evD E i) = true → j ∈ O := by
  unfold mayB
  rw [decide_eq_true_eq]
structure Gd (C : Cg) (E : List Ev) (P : List Nat) : Prop where
  lt : ∀ (k i : Nat), P[k]? = some i → i < E.length
  may : ∀ (k i : Nat), P[k]? = some i → mayB E (P.take k) i = true
  tk : (rsX C E P (sx0 C.c)).isSome = true
theorem Gd.nil (C : Cg) (E : List Ev) : Gd C E [] := ⟨fun _ _ h => by simp at h, fun _ _ h => by simp at h, rfl⟩
theorem Gd.mem {C : Cg} {E : List Ev} {P : List Nat} (h : Gd C E P) : ∀ i ∈ P, i < E.length := fun i hi => by
  obtain ⟨k, hk⟩ := List.getElem?_of_mem hi
  exact h.lt k i hk
theorem Gd.snoc {C : Cg} {E : List Ev} {O : List Nat} (h : Gd C E O) {X : Sx} (hX : rsX C E O (sx0 C.c) = some X) {i : Nat} (hi : i < E.length) (hm : mayB E O i = true) {X' : Sx} (he : evS C X (evD E i) = some X') : Gd C E (O ++ [i]) where
  lt := fun k x hk => by
    by_cases hl : k < O.length
    · rw [List.getElem?_append_left hl] at hk
      exact h.lt k x hk
    · rw [List.getElem?_append_right (by omega)] at hk
      have e := (List.getElem?_eq_some_iff.1 hk).1
      simp only [List.length_cons, List.length_nil] at e
      have : k - O.length = 0 := by omega
      rw [this] at hk
      obtain rfl : i = x := by simpa using hk
      exact hi
  may := fun k x hk => by
    by_cases hl : k < O.length
    · rw [List.getElem?_append_left hl] at hk
      rw [List.take_append_of_le_length (by omega)]
      exact h.may k x hk
    · rw [List.getElem?_append_right (by omega)] at hk
      have e := (List.getElem?_eq_some_iff.1 hk).1
      simp only [List.length_cons, List.length_nil] at e
      have e2 : k - O.length = 0 := by omega
      rw [e2] at hk
      obtain rfl : i = x := by simpa using hk
      obtain rfl : k = O.length := by omega
      rw [List.take_left]
      exact hm
  tk := by rw [rsX_snoc hX he]; rfl
theorem take_next {P O : List Nat} {k x : Nat} (h : P.take k = O) (hx : P[k]? = some x) : P.take (k + 1) = O ++ [x] := by
  rw [List.take_add_one, h, hx]
  rfl
/-- What comes next in a good order may come next, and is taken. -/
theorem Gd.step {C : Cg} {E : List Ev} {P O : List Nat} (h : Gd C E P) {k x : Nat} (ho : P.take k = O) (hx : P[k]? = some x) {X : Sx} (hX : rsX C E O (sx0 C.c) = some X) : x < E.length ∧ mayB E O x = true ∧ (evS C X (evD E x)).isSome = true := by
  refine ⟨h.lt k x hx, ho ▸ h.may k x hx, ?_⟩
  have e : P = (O ++ [x]) ++ P.drop (k + 1) := by rw [← take_next ho hx]; exact (List.take_append_drop _ _).symm
  have q := h.tk
  rw [e] at q
  have q2 := rsX_front q
  rw [rsX_app, hX] at q2
  have q3 : (rsX C E [x] X).isSome = true := q2
  rw [rsX_one] at q3
  exact q3
theorem Gd.len_take {P O : List Nat} {k : Nat} (ho : P.take k = O) (hk : k ≤ P.length) : O.length = k := by rw [← ho, List.length_take]; omega
theorem Gd.nodup {C : Cg} {E : List Ev} {P : List Nat} (h : Gd C E P) {j k x y : Nat} (hj : P[j]? = some x) (hk : P[k]? = some y) (hjk : j < k) : x ≠ y := fun e => by
  subst e
  have := (mayB_iff.1 (h.may k x hk)).1
  exact this (List.mem_of_getElem? (i := j) (by rw [List.getElem?_take, if_pos hjk]; exact hj))
/-- How far the search has come: no order that goes lies behind it. -/
structure Tri (C : Cg) (E : List Ev) (O : List Nat) (f : Nat) : Prop where
  ins : ∀ P, Gd C E P → P.length = E.length → ∀ (k i x : Nat), O[k]? = some i → P.take k = O.take k → P[k]? = some x → i ≤ x
  fin : ∀ P, Gd C E P → P.length = E.length → P.take O.length = O → ∀ (x : Nat), P[O.length]? = some x → f ≤ x
/-- None of these may come next. -/
def NoX (C : Cg) (E : List Ev) (O : List Nat) (X : Sx) (f i : Nat) : Prop := ∀ x, f ≤ x → x < i → ¬ (mayB E O x = true ∧ (evS C X (evD E x)).isSome = true)
theorem Tri.start (C : Cg) (E : List Ev) : Tri C E [] 0 := ⟨fun _ _ _ _ _ _ h => by simp at h, fun _ _ _ _ _ _ => Nat.zero_le _⟩
theorem Tri.deeper {C : Cg} {E : List Ev} {O : List Nat} {f i : Nat} {X : Sx} (h : Tri C E O f) (hX : rsX C E O (sx0 C.c) = some X) (hn : NoX C E O X f i) : Tri C E (O ++ [i]) 0 where
  ins := fun P hP hl k a x hk ht hx => by
    by_cases hl' : k < O.length
    · rw [List.getElem?_append_left hl'] at hk
      rw [List.take_append_of_le_length (by omega)] at ht
      exact h.ins P hP hl k a x hk ht hx
    · rw [List.getElem?_append_right (by omega)] at hk
      have e := (List.getElem?_eq_some_iff.1 hk).1
      simp only [List.length_cons, List.length_nil] at e
      have e2 : k - O.length = 0 := by omega
      rw [e2] at hk
      obtain rfl : i = a := by simpa using hk
      obtain rfl : k = O.length := by omega
      rw [List.take_left] at ht
      have hf := h.fin P hP hl ht x hx
      apply Nat.le_of_not_lt
      intro hlt
      have st := hP.step ht hx hX
      exact hn x hf hlt st.2
  fin := fun _ _ _ _ _ _ => Nat.zero_le _
theorem Tri.none {C : Cg} {E : List Ev} {O : List Nat} {f : Nat} {X : Sx} (h : Tri C E O f) (hX : rsX C E O (sx0 C.c) = some X) (hn : NoX C E O X f E.length) (hO : O.length < E.length) : ∀ P, Gd C E P → P.length = E.length → P.take O.length ≠ O := fun P hP hl ht => by
  obtain ⟨x, hx⟩ : ∃ x, P[O.length]? = some x := ⟨_, List.getElem?_eq_getElem (by omega)⟩
  have st := hP.step ht hx hX
  exact hn x (h.fin P hP hl ht x hx) st.1 st.2
theorem Tri.back {C : Cg} {E : List Ev} {O : List Nat} {a f : Nat} {X : Sx} (h : Tri C E (O ++ [a]) f) (hX : rsX C E (O ++ [a]) (sx0 C.c) = some X) (hn : NoX C E (O ++ [a]) X f E.length) (hO : O.length + 1 < E.length) : Tri C E O (a + 1) where
  ins := fun P hP hl k i x hk ht hx => by
    have hl' := (List.getElem?_eq_some_iff.1 hk).1
    refine h.ins P hP hl k i x ?_ ?_ hx
    · rw [List.getElem?_append_left hl']; exact hk
    · rw [List.take_append_of_le_length (by omega)]; exact ht
  fin := fun P hP hl ht x hx => by
    have h1 := h.ins P hP hl O.length a x (by simp) (by rw [List.take_left]; exact ht) hx
    have h2 : x ≠ a := fun e => by
      subst e
      have t := take_next ht hx
      exact h.none hX hn (by simp; omega) P hP hl (by rw [List.length_append]; exact t)
    omega
/-- The search's place as a number: it rises. -/
def dvN : Nat → List Nat → Nat → Nat
  | L, [], f => 2 * f * 16 ^ L
  | L, i :: O, f => (2 * i + 1) * 16 ^ L + dvN (L - 1) O f
theorem dvN_lt : ∀ (O : List Nat) (L f : Nat), O.length ≤ L → (∀ i ∈ O, i < 7) → f ≤ 7 → dvN L O f < 16 ^ (L + 1)
  | [], L, f, _, _, hf => by
    unfold dvN
    rw [Nat.pow_succ]
    have : 0 < 16 ^ L := Nat.pow_pos (by decide)
    have : 2 * f * 16 ^ L ≤ 14 * 16 ^ L := Nat.mul_le_mul_right _ (by omega)
    omega
  | i :: O, L, f, hl, hi, hf => by
    unfold dvN
    simp only [List.length_cons] at hl
    obtain ⟨L, rfl⟩ : ∃ M, L = M + 1 := ⟨L - 1, by omega⟩
    have h1 := dvN_lt O L f (by omega) (fun j hj => hi j (List.mem_cons_of_mem _ hj)) hf
    have h2 := hi i (List.mem_cons_self ..)
    rw [Nat.add_sub_cancel]
    have : (2 * i + 1) * 16 ^ (L + 1) ≤ 13 * 16 ^ (L + 1) := Nat.mul_le_mul_right _ (by omega)
    rw [Nat.pow_succ 16 (L + 1)]
    omega
theorem dvN_deep : ∀ (O : List Nat) (L f i : Nat), O.length < L → f ≤ i → dvN L O f < dvN L (O ++ [i]) 0
  | [], L, f, i, hl, hf => by
    show 2 * f * 16 ^ L < (2 * i + 1) * 16 ^ L + 2 * 0 * 16 ^ (L - 1)
    have : 0 < 16 ^ L := Nat.pow_pos (by decide)
    have : 2 * f * 16 ^ L < (2 * i + 1) * 16 ^ L := Nat.mul_lt_mul_of_pos_right (by omega) this
    omega
  | j :: O, L, f, i, hl, hf => by
    show (2 * j + 1) * 16 ^ L + dvN (L - 1) O f < (2 * j + 1) * 16 ^ L + dvN (L - 1) (O ++ [i]) 0
    simp only [List.length_cons] at hl
    have := dvN_deep O (L - 1) f i (by omega) hf
    omega
theorem dvN_back : ∀ (O : List Nat) (L f a : Nat), O.length < L → f ≤ 7 → dvN L (O ++ [a]) f < dvN L O (a + 1)
  | [], L, f, a, hl, hf => by
    show (2 * a + 1) * 16 ^ L + 2 * f * 16 ^ (L - 1) < 2 * (a + 1) * 16 ^ L
    obtain ⟨L, rfl⟩ : ∃ M, L = M + 1 := ⟨L - 1, by simp only [List.length_nil] at hl; omega⟩
    rw [Nat.add_sub_cancel, Nat.pow_succ]
    have : 0 < 16 ^ L := Nat.pow_pos (by decide)
    have h1 : 2 * f * 16 ^ L ≤ 14 * 16 ^ L := Nat.mul_le_mul_right _ (by omega)
    have h2 : 2 * (a + 1) * (16 ^ L * 16) = (2 * a + 1) * (16 ^ L * 16) + 16 ^ L * 16 := by
      rw [show 2 * (a + 1) = (2 * a + 1) + 1 from by omega, Nat.add_mul, Nat.one_mul]
    omega
  | j :: O, L, f, a, hl, hf => by
    show (2 * j + 1) * 16 ^ L + dvN (L - 1) (O ++ [a]) f < (2 * j + 1) * 16 ^ L + dvN (L - 1) O (a + 1)
    simp only [List.length_cons] at hl
    have := dvN_back O (L - 1) f a (by omega) hf
    omega
/-- A whole order that goes respects the history .. -/
theorem Gd.resp {C : Cg} {E : List Ev} {P : List Nat} (h : Gd C E P) (hl : P.length = E.length) : RespP E (P.map fun (x : Nat) => (x : Int)) := by
  have at_ : ∀ {k : Nat} {x : Int}, (P.map fun (x : Nat) => (x : Int))[k]? = some x → ∃ p : Nat, x = (p : Int) ∧ P[k]? = some p := fun {k x} hk => by
    rw [List.getElem?_map] at hk
    cases hp : P[k]? with
    | none => rw [hp] at hk; cases hk
    | some p => rw [hp] at hk; exact ⟨p, (Option.some.inj hk).symm, rfl⟩
  refine ⟨by rw [List.length_map]; exact hl, fun k x hk => ?_, fun j k x y hj hk hjk => ?_, fun j k x y e f hj hk hjk he hf => ?_⟩
  · obtain ⟨p, rfl, hp⟩ := at_ hk
    have := h.lt k p hp
    omega
  · obtain ⟨p, rfl, hp⟩ := at_ hj
    obtain ⟨q, rfl, hq⟩ := at_ hk
    have := h.nodup hp hq hjk
    omega
  · obtain ⟨p, rfl, hp⟩ := at_ hj
    obtain ⟨q, rfl, hq⟩ := at_ hk
    rw [Int.toNat_natCast] at he hf
    intro hlt
    have m := mayB_iff.1 (h.may j p hp)
    have hne := h.nodup hp hq hjk
    have := m.2 q (h.lt k q hq) (fun e => hne e.symm) (by rw [evD_at he, evD_at hf]; unfold ahB; exact decide_eq_true hlt)
    obtain ⟨i, hi⟩ := List.getElem?_of_mem this
    rw [List.getElem?_take] at hi
    split at hi
    · exact h.nodup hi hq (by omega) rfl
    · cases hi
theorem nod_len2 : ∀ (n : Nat) (l : List Nat), l.Nodup → (∀ x ∈ l, x < n) → l.length ≤ n
  | 0, l, _, h => by
    cases l with
    | nil => exact Nat.le_refl _
    | cons x l => have := h x (List.mem_cons_self ..); omega
  | n + 1, l, hd, h => by
    by_cases hn : n ∈ l
    · have h1 := nod_len2 n (l.erase n) (hd.erase _) fun x hx => by
        obtain ⟨h2, h3⟩ := (List.Nodup.mem_erase_iff hd).1 hx
        have := h x h3
        omega
      rw [List.length_erase_of_mem hn] at h1
      omega
    · have := nod_len2 n l hd fun x hx => by
        have h1 := h x hx
        have : x ≠ n := fun e => hn (e ▸ hx)
        omega
      omega
/-- .. and the other way round. -/
theorem resp_gd {C : Cg} {E : List Ev} {P : List Nat} (h : RespP E (P.map fun (x : Nat) => (x : Int))) (ht : (rsX C E P (sx0 C.c)).isSome = true) : Gd C E P ∧ P.length = E.length := by
  obtain ⟨hl, hr, hd, ha⟩ := h
  rw [List.length_map] at hl
  have im : ∀ {k p : Nat}, P[k]? = some p → (P.map fun (x : Nat) => (x : Int))[k]? = some (p : Int) := fun hk => by rw [List.getElem?_map, hk]; rfl
  have lt : ∀ (k i : Nat), P[k]? = some i → i < E.length := fun k i hk => by have := hr k i (im hk); omega
  have dn : ∀ (j k x y : Nat), P[j]? = some x → P[k]? = some y → j < k → x ≠ y := fun j k x y hj hk hjk => by have := hd j k (x : Int) (y : Int) (im hj) (im hk) hjk; omega
  have nd : P.Nodup := by
    rw [List.nodup_iff_pairwise_ne, List.pairwise_iff_getElem]
    intro i j hi hj hij
    exact dn i j _ _ (List.getElem?_eq_getElem hi) (List.getElem?_eq_getElem hj) hij
  have all : ∀ j, j < E.length → j ∈ P := fun j hj => by
    by_cases hm : j ∈ P
    · exact hm
    · have := nod_len2 E.length (j :: P) (List.nodup_cons.2 ⟨hm, nd⟩) fun x hx => by
        rcases List.mem_cons.1 hx with rfl | hx
        · exact hj
        · obtain ⟨k, hk⟩ := List.getElem?_of_mem hx
          exact lt k x hk
      simp only [List.length_cons] at this
      omega
  refine ⟨⟨lt, fun k i hk => mayB_iff.2 ⟨fun hi => ?_, fun j hj hne hah => ?_⟩, ht⟩, hl⟩
  · obtain ⟨p, hp⟩ := List.getElem?_of_mem hi
    rw [List.getElem?_take] at hp
    split at hp
    · exact dn p k i i hp hk (by omega) rfl
    · cases hp
  · obtain ⟨p, hp⟩ := List.getElem?_of_mem (all j hj)
    rcases Nat.lt_trichotomy p k with hlt | heq | hgt
    · exact List.mem_of_getElem? (i := p) (by rw [List.getElem?_take, if_pos hlt]; exact hp)
    · subst heq
      rw [hk] at hp
      exact absurd (Option.some.inj hp).symm hne
    · have := ha k p i j _ _ (im hk) (im hp) hgt (by rw [Int.toNat_natCast]; exact at_evD (lt k i hk)) (by rw [Int.toNat_natCast]; exact at_evD (lt p j hp))
      unfold ahB at hah
      exact absurd (of_decide_eq_true hah) this
end Go.Proofs.Ytecppcakgfohbab
/- Slices of models in blocks of the call's own, at whatever offset; append onto one. -/
namespace Go.Proofs.Ytecppcakgfohbab
open Go.RowKit
set_option linter.unusedSimpArgs false
set_option linter.unusedVariables false

def ptrs (xs : List Nat) : List Value := xs.map fun (x : Nat) => Value.pointer (some ⟨x, 0, none⟩)
theorem ptrs_len (xs : List Nat) : (ptrs xs).length = xs.length := by simp [ptrs]
theorem ptrs_get (xs : List Nat) (i : Nat) (h : i < xs.length) : (ptrs xs)[i]? = some (.pointer (some ⟨xs.getD i 0, 0, none⟩)) := by simp [ptrs, h]
theorem ptrs_one (xs : List Nat) : ∀ u ∈ ptrs xs, u.oneCell' = true := by
  intro u hu
  obtain ⟨x, _, rfl⟩ := List.mem_map.1 hu
  rfl

/-- A slice of these ptrs, its block the call's own. -/
def IsP (w : World) (v : Value) (xs : List Nat) : Prop :=
  (v = .slice none 0 0 ∧ xs = []) ∨
  ∃ g off cap cur, v = .slice (some ⟨g, off, none⟩) xs.length cap ∧ w.heap[g]? = some (.cells cur 60 (0, 0)) ∧ xs.length ≤ cap ∧ cap ≤ maxLen ∧ off + cap ≤ cur.size ∧ ∀ i, i < xs.length → cur[off + i]? = some (.pointer (some ⟨xs.getD i 0, 0, none⟩))

theorem IsP.nil (w : World) : IsP w (.slice none 0 0) [] := .inl ⟨rfl, rfl⟩
theorem IsP.lt {w : World} {v : Value} {xs : List Nat} (h : IsP w v xs) {g : Nat} (hg : v.ownBlock = some g) : g < w.heap.size := by
  rcases h with ⟨rfl, _⟩ | ⟨g', off, cap, cur, rfl, hh, _⟩
  · cases hg
  · obtain rfl : g' = g := by simpa [Value.ownBlock] using hg
    exact lt_of_block hh
theorem IsP.kept {w w' : World} {v : Value} {xs : List Nat} (h : IsP w v xs) (hb : ∀ g, v.ownBlock = some g → w'.heap[g]? = w.heap[g]?) : IsP w' v xs := by
  rcases h with h | ⟨g, off, cap, cur, rfl, hh, rest⟩
  · exact .inl h
  · exact .inr ⟨g, off, cap, cur, rfl, (hb g rfl).trans hh, rest⟩
theorem IsP.below {w w' : World} {v : Value} {xs : List Nat} (h : IsP w v xs) (b : Below w.heap.size w w') : IsP w' v xs := h.kept fun g hg => b.block g (h.lt hg)
theorem IsP.chg {L : Nat → Prop} {w w' : World} {v : Value} {xs : List Nat} (h : IsP w v xs) (b : Chg L w w') (hn : ∀ g, v.ownBlock = some g → ¬ L g) : IsP w' v xs := h.kept fun g hg => b.block g (h.lt hg) (hn g hg)

/-- The slice's form, for a walk. -/
theorem IsP.form {w : World} {v : Value} {xs : List Nat} (h : IsP w v xs) : ∃ ad cap, v = .slice ad xs.length cap ∧ xs.length ≤ cap ∧ (xs ≠ [] → ∃ g off, ad = some ⟨g, off, none⟩) := by
  rcases h with ⟨rfl, rfl⟩ | ⟨g, off, cap, cur, rfl, _, hc, _⟩
  · exact ⟨none, 0, rfl, Nat.le_refl _, fun h => absurd rfl h⟩
  · exact ⟨_, _, rfl, hc, fun _ => ⟨g, off, rfl⟩⟩
theorem IsP.cell {w : World} {g off n cap : Nat} {xs : List Nat} (h : IsP w (.slice (some ⟨g, off, none⟩) n cap) xs) (i : Nat) (hi : i < xs.length) : w.cell? ⟨g, off + i, none⟩ = some (.pointer (some ⟨xs.getD i 0, 0, none⟩)) := by
  rcases h with ⟨h0, _⟩ | ⟨g', off', cap', cur, h1, hh, _, _, _, hc⟩
  · cases h0
  · simp only [Value.slice.injEq, Option.some.injEq, Addr.mk.injEq] at h1
    obtain ⟨⟨rfl, rfl, -⟩, -, -⟩ := h1
    simp only [World.cell?, hh]
    exact hc i hi
theorem IsP.len {w : World} {ad : Option Addr} {n cap : Nat} {xs : List Nat} (h : IsP w (.slice ad n cap) xs) : n = xs.length ∧ n ≤ cap ∧ cap ≤ maxLen := by
  rcases h with ⟨h0, rfl⟩ | ⟨g', off', cap', cur, h1, hh, h2, h3, _⟩
  · simp only [Value.slice.injEq] at h0; obtain ⟨_, rfl, rfl⟩ := h0; exact ⟨rfl, Nat.le_refl _, Nat.zero_le _⟩
  · simp only [Value.slice.injEq] at h1; obtain ⟨_, rfl, rfl⟩ := h1; exact ⟨rfl, h2, h3⟩

theorem IsP.tail {w : World} {g off n cap : Nat} {x : Nat} {xs : List Nat} (h : IsP w (.slice (some ⟨g, off, none⟩) n cap) (x :: xs)) : IsP w (.slice (some ⟨g, off + 1, none⟩) xs.length (cap - 1)) xs := by
  rcases h with ⟨h0, _⟩ | ⟨g', off', cap', cur, h1, hh, h2, h3, h4, hc⟩
  · cases h0
  · simp only [Value.slice.injEq, Option.some.injEq, Addr.mk.injEq] at h1
    obtain ⟨⟨rfl, rfl, -⟩, rfl, rfl⟩ := h1
    simp only [List.length_cons] at h2 hc
    refine .inr ⟨g, off + 1, cap - 1, cur, rfl, hh, by omega, by omega, by omega, fun i hi => ?_⟩
    have := hc (i + 1) (by omega)
    rw [show off + 1 + i = off + (i + 1) by omega, this]
    simp

/-- All but the first element; the address stays where there is no room left. -/
theorem IsP.tails {w : World} {g off n cap : Nat} {x : Nat} {xs : List Nat} (h : IsP w (.slice (some ⟨g, off, none⟩) n cap) (x :: xs)) : IsP w (.slice (if cap = 1 then some ⟨g, off, none⟩ else some ⟨g, off + 1, none⟩) xs.length (cap - 1)) xs := by
  by_cases hc : cap = 1
  · rw [if_pos hc]
    have hl := h.len
    simp only [List.length_cons] at hl
    have h0 : xs = [] := List.eq_nil_of_length_eq_zero (by omega)
    subst h0 hc
    rcases h with ⟨h0, _⟩ | ⟨g', off', cap', cur, h1, hh, h2, h3, h4, _⟩
    · cases h0
    · simp only [Value.slice.injEq, Option.some.injEq, Addr.mk.injEq] at h1
      obtain ⟨⟨rfl, rfl, -⟩, rfl, rfl⟩ := h1
      exact .inr ⟨g, off, 0, cur, rfl, hh, Nat.le_refl _, Nat.zero_le _, by omega, fun i hi => by simp at hi⟩
  · rw [if_neg hc]
    exact h.tail

theorem IsP.of_own {w : World} {base : Nat} {v : Value} {n : Nat} {xs : List Nat} {ys : List Value} (h : w.ownsRow base 60 1 v n ys) (hy : ys = ptrs xs) : IsP w v xs ∧ ∀ g, v.ownBlock = some g → base ≤ g := by
  subst hy
  have hn : xs.length = n := by have := h.1; rw [ptrs_len] at this; omega
  rcases h.2 with ⟨rfl, rfl⟩ | ⟨g, cap, cur, rfl, hb, hh, h2, h3, h4, h5⟩
  · exact ⟨.inl ⟨rfl, List.eq_nil_of_length_eq_zero hn⟩, fun g hg => by cases hg⟩
  · refine ⟨.inr ⟨g, 0, cap, cur, by rw [hn], hh, by omega, h3, by omega, fun i hi => ?_⟩, fun g' hg' => by obtain rfl : g = g' := by simpa [Value.ownBlock] using hg'
                                                                                                            exact hb⟩
    have e := ptrs_get xs i hi
    rw [← h5, Nat.mul_one, List.getElem?_take, if_pos (by omega)] at e
    simpa using e

theorem IsP.init {w : World} {ad : Option Addr} {n cap : Nat} {x : Nat} {xs : List Nat} (h : IsP w (.slice ad n cap) (xs ++ [x])) : IsP w (.slice ad xs.length cap) xs := by
  rcases h with ⟨h0, h1⟩ | ⟨g', off', cap', cur, h1, hh, h2, h3, h4, hc⟩
  · simp at h1
  · simp only [Value.slice.injEq] at h1
    obtain ⟨rfl, rfl, rfl⟩ := h1
    simp only [List.length_append, List.length_cons, List.length_nil] at h2 hc
    refine .inr ⟨g', off', cap, cur, rfl, hh, by omega, by omega, by omega, fun i hi => ?_⟩
    rw [hc i (by omega)]
    simp [List.getElem?_append_left hi]
theorem Try.infoPm : (Try.prog.info? 60).map (fun i => (i.zero, i.size, i.bytes)) = some (some (.pointer none), 1, 8) := by kernel_rfl

/-- Append: the slice is then of both lists, in the row that it had, or in a new one. -/
theorem run_append_ptrs {w : World} {v : Value} {xs ys : List Nat} (hI : IsP w v xs) (ty : TypeId) (ad : Addr) (c : Nat) (hy : ys ≠ []) (hys : ∀ j u, (ptrs ys)[j]? = some u → w.cell? (ad.add j) = some u) (hl : xs.length + ys.length ≤ 1000000) :
    ∃ v' w', (Builtin.append_ #[64, 64] ty #[v, .slice (some ad) ys.length c]).run Try.prog w = .ok v' w' ∧ IsP w' v' (xs ++ ys) ∧ w.grownBy w' v.ownBlock ∧ (v'.ownBlock = v.ownBlock ∨ ∃ g, v'.ownBlock = some g ∧ w.heap.size ≤ g) := by
  obtain ⟨i0, hi, hz0, hz1, hz2⟩ := info_parts Try.infoPm
  have hy1 : 0 < ys.length := List.length_pos_iff.2 hy
  rcases hI with ⟨rfl, rfl⟩ | ⟨g, off, cap, cur, rfl, hh, h2, h3, h4, hc⟩
  · obtain ⟨v', w', hr, h2, h3, _, _⟩ := run_append_own_at (P := Try.prog) w w.heap.size 64 ty 60 i0 (.pointer none) 1 8 Try.underlying64 hi hz0 hz1 hz2 rfl (by decide) (.slice none 0 0) 0 [] (World.ownsRow_nil _ _ _ _) ad ys.length c (ptrs ys) (by rw [ptrs_len]; omega) hys (ptrs_one _) (by unfold maxLen; simp at hl; omega) (by simp at hl; omega) (Nat.le_refl _)
    obtain ⟨q1, q2⟩ := IsP.of_own h2 (xs := [] ++ ys) (by simp)
    refine ⟨v', w', hr, q1, h3, .inr ?_⟩
    rcases h2.2 with ⟨_, h0⟩ | ⟨g, cap, cur, rfl, hb, _⟩
    · omega
    · exact ⟨g, rfl, hb⟩
  · by_cases hroom : xs.length + ys.length ≤ cap
    · have e1 : xs.length * i0.size = xs.length := by rw [hz1]; omega
      have hcell : ∀ j, j < (ptrs ys).length → w.cell? ⟨g, off + xs.length * i0.size + j, none⟩ = cur[off + xs.length + j]? := fun j _ => by rw [e1]; simp [World.cell?, hh]
      have hr := run_append_room_cells (P := Try.prog) w 64 ty 60 i0 Try.underlying64 hi g off xs.length cap ad ys.length c (ptrs ys) (by rw [ptrs_len, hz1]; omega) hys (ptrs_one _) hroom
        (fun j hj => by rw [hcell j hj]; rw [ptrs_len] at hj; rw [Array.getElem?_eq_getElem (by omega)]; rfl) (fun j _ => by simp [World.frozen?, hh])
      rw [e1] at hr
      obtain ⟨cur', k1, k2, k3, k4, k5⟩ := heap_setCells (ptrs ys) (off + xs.length) w cur hh (by rw [ptrs_len]; omega)
      refine ⟨_, _, hr, .inr ⟨g, off, cap, cur', by rw [List.length_append], k1, by rw [List.length_append]; exact hroom, h3, by omega, fun i hi => ?_⟩, k5, .inl rfl⟩
      rw [List.length_append] at hi
      by_cases hx : i < xs.length
      · rw [k4 _ (by omega), hc i hx]
        simp [List.getElem?_append_left hx]
      · have := k3 (i - xs.length) (by rw [ptrs_len]; omega)
        rw [show off + i = off + xs.length + (i - xs.length) by omega, this, ptrs_get ys _ (by omega)]
        simp [List.getElem?_append_right (show xs.length ≤ i by omega)]
    · have holds : ∀ j u, (ptrs xs)[j]? = some u → w.cell? ((⟨g, off, none⟩ : Addr).add j) = some u := by
        intro j u hj
        have hjl : j < xs.length := by
          have := (List.getElem?_eq_some_iff.1 hj).1
          rwa [ptrs_len] at this
        rw [Addr.add_lit]
        rw [ptrs_get xs j hjl] at hj
        simp only [World.cell?, hh, hc j hjl]
        exact hj
      obtain ⟨v', w', hr, h5, h6⟩ := run_append_arg_grows (P := Try.prog) w 64 ty 60 i0 (.pointer none) 1 8 Try.underlying64 hi hz0 hz1 hz2 rfl (by decide) ⟨g, off, none⟩ xs.length cap (ptrs xs) (by rw [ptrs_len]; omega) holds ad ys.length c (ptrs ys) (by rw [ptrs_len]; omega) hys (by omega) (by unfold maxLen; omega) (by omega)
      obtain ⟨q1, q2⟩ := IsP.of_own h5 (xs := xs ++ ys) (by simp [ptrs])
      refine ⟨v', w', hr, q1, ⟨h6.os, h6.tape, h6.output, h6.size, fun k hk _ => h6.block k hk (by simp)⟩, .inr ?_⟩
      rcases h5.2 with ⟨_, h0⟩ | ⟨g', cap', cur', rfl, hb, _⟩
      · omega
      · exact ⟨g', rfl, hb⟩

/-- The same for the walk. -/
theorem wpList_append_ptrs {w : World} {ops : Array Oper} {rest : List Oper} {o : Oper} {a : Act} {Q : Exit → Act → World → Prop} (hgd : o.guard = none) (s x : Operand)
    (ho : o.op = .call { callee := .builtin .append, args := #[s, x], argTypes := #[64, 64] })
    (v : Value) (xs ys : List Nat) (hs : a.eval s = v) (hI : IsP w v xs) (ad : Addr) (n c : Nat) (hx : a.eval x = .slice (some ad) n c) (hn : n = ys.length) (hy : ys ≠ [])
    (hys : ∀ j u, (ptrs ys)[j]? = some u → w.cell? (ad.add j) = some u) (hl : xs.length + ys.length ≤ 1000000)
    (h : ∀ v' w', IsP w' v' (xs ++ ys) → w.grownBy w' v.ownBlock → (v'.ownBlock = v.ownBlock ∨ ∃ g, v'.ownBlock = some g ∧ w.heap.size ≤ g) → wpList Try.prog ops Q rest (a.put o.dst v') w') : wpList Try.prog ops Q (o :: rest) a w := by
  subst hn
  refine wpList_plain hgd fun K hK => ?_
  obtain ⟨v', w', hr, h2, h3, h4⟩ := run_append_ptrs hI o.type ad c hy hys hl
  unfold Oper.wp execOp
  simp only [ho, resolve, invoke, builtin, Sem.run_bind, Sem.run_pure, Result.andThen_ok, List.map_toArray, List.map_cons, List.map_nil, hs, hx, hr]
  exact hK _ _ (h v' w' h2 h3 h4)

/-- The same at a step of a region that draws its order. -/
theorem step_append_ptrs {w : World} {ops : Array Oper} {o : Oper} {a : Act} {K : Act → World → Prop} {Q : Exit → Act → World → Prop} {E : Prop} (hgd : o.guard = none) (s x : Operand)
    (ho : o.op = .call { callee := .builtin .append, args := #[s, x], argTypes := #[64, 64] })
    (v : Value) (xs ys : List Nat) (hs : a.eval s = v) (hI : IsP w v xs) (ad : Addr) (n c : Nat) (hx : a.eval x = .slice (some ad) n c) (hn : n = ys.length) (hy : ys ≠ [])
    (hys : ∀ j u, (ptrs ys)[j]? = some u → w.cell? (ad.add j) = some u) (hl : xs.length + ys.length ≤ 1000000)
    (h : ∀ v' w', IsP w' v' (xs ++ ys) → w.grownBy w' v.ownBlock → (v'.ownBlock = v.ownBlock ∨ ∃ g, v'.ownBlock = some g ∧ w.heap.size ≤ g) → K (a.put o.dst v') w') :
    if Region.wanted o (yielded ops a.tmps) = true then Oper.wp Try.prog o a w K Q else E := by
  have hw : Region.wanted o (yielded ops a.tmps) = true := by simp [Region.wanted, hgd]
  rw [if_pos hw]
  subst hn
  obtain ⟨v', w', hr, h2, h3, h4⟩ := run_append_ptrs hI o.type ad c hy hys hl
  unfold Oper.wp execOp
  simp only [ho, resolve, invoke, builtin, Sem.run_bind, Sem.run_pure, Result.andThen_ok, List.map_toArray, List.map_cons, List.map_nil, hs, hx, hr]
  exact h v' w' h2 h3 h4

end Go.Proofs.Ytecppcakgfohbab
