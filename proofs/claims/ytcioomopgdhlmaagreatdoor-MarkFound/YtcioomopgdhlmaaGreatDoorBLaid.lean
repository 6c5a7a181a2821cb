/- The reference's Laid: its contract. -/
import Derived.Test.YtcioomopgdhlmaaGreatDoorBLd0
import Derived.Test.YtcioomopgdhlmaaGreatDoorPRmem
namespace Go.Proofs.YtcioomopgdhlmaaGreatDoor
open Go.RowKit
open Mm (IsMem MS touched Only IsWords)
open Hh (WT wordOf okW Hr rightH IsHd)

theorem rlink_any {K : Cf} (hK : K.Ok) (s : Nat) (hs : s < K.S) (w : World) :
    Calls Tryz.prog 38 #[.agg K.cs, .agg #[.string ⟨#[108, 105, 110, 107]⟩, .int .i64 (s : Nat), .int .i64 0]] w fun e w' => e = .returned (.int .i64 (K.lk s : Nat)) ∧ Below w.heap.size w w' :=
  at_yes hK.r hK.b hK.b8 9 s 0 (K.lk s) (by omega) (hK.lk_lt hs) (wat_link K.C K.D K.B s) w
theorem rbody_any {K : Cf} (hK : K.Ok) (s i : Nat) (hs : s < K.S) (hi : i < K.B) (w : World) :
    Calls Tryz.prog 38 #[.agg K.cs, .agg #[.string ⟨#[98, 111, 100, 121]⟩, .int .i64 (s : Nat), .int .i64 (i : Nat)]] w fun e w' => e = .returned (.int .i64 (K.bd s i : Nat)) ∧ Below w.heap.size w w' :=
  at_yes hK.r hK.b hK.b8 10 s i (K.bd s i) (by omega) (K.bd_lt hs hi) (by have h := wat_body K.C K.D K.B s i hi; rw [← h]; congr 1; unfold Cf.bd Cf.hd; omega) w
theorem rentry_any {K : Cf} (hK : K.Ok) (k i : Nat) (hk : k < K.C) (hi : i < K.D) (w : World) :
    Calls Tryz.prog 38 #[.agg K.cs, .agg #[.string ⟨#[101, 110, 116, 114, 121]⟩, .int .i64 (k : Nat), .int .i64 (i : Nat)]] w fun e w' => e = .returned (.int .i64 (K.en k i : Nat)) ∧ Below w.heap.size w w' :=
  at_yes hK.r hK.b hK.b8 5 k i (K.en k i) (by omega) (K.en_lt hk hi) (wat_entry K.C K.D K.B k i hk hi) w
theorem rstart_any {K : Cf} (hK : K.Ok) (k : Nat) (hk : k < K.C) (w : World) :
    Calls Tryz.prog 38 #[.agg K.cs, .agg #[.string ⟨#[115, 116, 97, 114, 116]⟩, .int .i64 (k : Nat), .int .i64 0]] w fun e w' => e = .returned (.int .i64 (K.st k : Nat)) ∧ Below w.heap.size w w' :=
  at_yes hK.r hK.b hK.b8 7 k 0 (K.st k) (by omega) (K.st_lt hk) (wat_start K.C K.D K.B k hk) w
theorem rview_any {K : Cf} (hK : K.Ok) (k : Nat) (hk : k < K.C) (w : World) :
    Calls Tryz.prog 38 #[.agg K.cs, .agg #[.string ⟨#[118, 105, 101, 119]⟩, .int .i64 (k : Nat), .int .i64 0]] w fun e w' => e = .returned (.int .i64 (K.vw k : Nat)) ∧ Below w.heap.size w w' :=
  at_yes hK.r hK.b hK.b8 6 k 0 (K.vw k) (by omega) (K.vw_lt hk) (wat_view K.C K.D K.B k hk) w
theorem rroom_any {K : Cf} (hK : K.Ok) (w : World) : Calls Tryz.prog 37 #[.agg K.cs] w fun e w' => e = .returned (.int .i64 (K.B : Nat)) ∧ Below w.heap.size w w' := by
  have h := room_any K.S K.a K.C K.D K.g K.k w
  rw [hK.b] at h
  exact h
theorem slotX_zero {K : Cf} {n : Nat} {Z : Nat → Sv} {s : Nat} {p : List Nat × Nat} {X1 : List Nat} {W : Nat} (h1 : fillX K n Z s p.1 = X1) (h2 : hwS n Z s = W) (h3 : W % 8 = 0) : slotX K n Z s p = ((X1.set (K.hd s) W).set (K.lk s) p.2, s + 1) := by
  unfold slotX
  rw [h1, h2, if_pos h3]
theorem slotX_more {K : Cf} {n : Nat} {Z : Nat → Sv} {s : Nat} {p : List Nat × Nat} {X1 : List Nat} {W : Nat} (h1 : fillX K n Z s p.1 = X1) (h2 : hwS n Z s = W) (h3 : ¬ W % 8 = 0) : slotX K n Z s p = (X1.set (K.hd s) W, p.2) := by
  unfold slotX
  rw [h1, h2, if_neg h3]
theorem kind_word {Kk Mk A Nn Sk : Nat} (g : Bool) (h : Hr Kk Mk A Nn Sk) : wordOf Kk Mk g.toNat A Nn Sk % 8 = Kk := (Hh.word_parts g h).1

/-- What is known of the world within Laid's first loop. -/
structure L1 (w wr : World) (K : Cf) (R n : Nat) (Z : Nat → Sv) (Y : List Nat) (d : Nat) : Prop where
  le : d ≤ K.S
  fl : Fl w wr K R (slotsX K n Z Y d).1
  fit : Fitw K (slotsX K n Z Y d).1
  top : (slotsX K n Z Y d).2 ≤ K.S

theorem L1.next {w wq : World} {K : Cf} {R n : Nat} {Z : Nat → Sv} {Y : List Nat} {d s : Nat} {p : List Nat × Nat} {X' : List Nat} {t' : Nat} (h : slotsX K n Z Y (d + 1) = slotX K n Z s p) (e : slotX K n Z s p = (X', t')) (f : Fl w wq K R X') (ft : Fitw K X') (ht : t' ≤ K.S) (hd : d < K.S) : L1 w wq K R n Z Y (d + 1) ∧ (slotsX K n Z Y (d + 1)).2 = t' := by
  have h2 := h.trans e
  exact ⟨⟨hd, by rw [h2]; exact f, by rw [h2]; exact ft, by rw [h2]; exact ht⟩, by rw [h2]⟩
theorem Fl.other {w wr : World} {K : Cf} {R P : Nat} {X : List Nat} (h : Fl w wr K R X) (h1 : P ≠ R) (h2 : w.heap.size < P) (i : Nat) (v : Value) : Fl w (wr.setCell ⟨P, i, none⟩ v) K R X :=
  ⟨(Below.heap_setCell wr ⟨P, i, none⟩ v R (Ne.symm h1)).trans h.ws, cfg_stored h.cfg (by omega) _, h.bel.setCell (p := ⟨P, i, none⟩) (by omega : w.heap.size ≤ P) _, Hh.WT.set h.wt (by omega) _⟩
theorem Fl.six {w wr : World} {K : Cf} {R P : Nat} {X : List Nat} (h : Fl w wr K R X) (h1 : P ≠ R) (h2 : w.heap.size < P) (v0 v1 v2 v3 v4 v5 : Value) : Fl w ((((((wr.setCell ⟨P, 0, none⟩ v0).setCell ⟨P, 1, none⟩ v1).setCell ⟨P, 2, none⟩ v2).setCell ⟨P, 3, none⟩ v3).setCell ⟨P, 4, none⟩ v4).setCell ⟨P, 5, none⟩ v5) K R X :=
  (((((h.other h1 h2 0 v0).other h1 h2 1 v1).other h1 h2 2 v2).other h1 h2 3 v3).other h1 h2 4 v4).other h1 h2 5 v5
theorem hd_six {wr : World} {P : Nat} {k0 m0 : Int} {g0 : Bool} {a0 n0 s0 : Int} (h : IsHd wr P k0 m0 g0 a0 n0 s0) (k m : Int) (g : Bool) (a n s : Int) : IsHd ((((((wr.setCell ⟨P, 0, none⟩ (.int .i64 k)).setCell ⟨P, 1, none⟩ (.int .i64 m)).setCell ⟨P, 2, none⟩ (.bool g)).setCell ⟨P, 3, none⟩ (.int .i64 a)).setCell ⟨P, 4, none⟩ (.int .i64 n)).setCell ⟨P, 5, none⟩ (.int .i64 s)) P k m g a n s := by
  have h1 := Mm.heap_setCell_at (o := 0) h (.int .i64 k)
  have h2 := Mm.heap_setCell_at (o := 1) h1 (.int .i64 m)
  have h3 := Mm.heap_setCell_at (o := 2) h2 (.bool g)
  have h4 := Mm.heap_setCell_at (o := 3) h3 (.int .i64 a)
  have h5 := Mm.heap_setCell_at (o := 4) h4 (.int .i64 n)
  exact Mm.heap_setCell_at (o := 5) h5 (.int .i64 s)
theorem Cf.Ok.c1' {K : Cf} (h : K.Ok) : 1 ≤ K.C := by
  have h1 := rightB_iff.1 h.r
  omega
theorem wrap64_nat {i : Nat} (h : i < 4611686018427387904) : wrap64 (i : Int) = (i : Int) := by
  unfold wrap64; omega
theorem rpack_zero (w : World) : Calls Tryz.prog 39 #[.agg #[.int .i64 0, .int .i64 0, .bool false, .int .i64 0, .int .i64 0, .int .i64 0]] w fun e w' => e = .returned (.int .u64 0) ∧ Below w.heap.size w w' := Hh.rpack_any 0 0 false 0 0 0 (by omega) (by omega) (by omega) (by omega) (by omega) w

set_option maxRecDepth 100000 in
set_option maxHeartbeats 16000000 in
theorem laid_any {K : Cf} (hK : K.Ok) {ad : Option Addr} {n cap : Nat} {Z : Nat → Sv} {rad : Option Addr} {nr rcap : Nat} {rr : Nat → Nat} {vad : Option Addr} {nv vcap : Nat} {vv : Nat → Nat} {w : World} (hr : RdV w ad n Z) (hrr : RdU w rad nr rr) (hvv : RdU w vad nv vv) (hn : n < 9223372036854775808) (hnr : nr < 9223372036854775808) (hnv : nv < 9223372036854775808) (hw : WT w) :
    Calls Tryz.prog 9 #[.agg K.cs, .slice ad n cap, .slice rad nr rcap, .slice vad nv vcap] w fun r w' => ∃ R, r = .returned (.slice (some ⟨R, 0, none⟩) K.N K.N) ∧ IsWords w' R (laidX K n Z nr rr nv vv) ∧ Fitw K (laidX K n Z nr rr nv vv) ∧ w.heap.size + 1 ≤ R ∧ Below w.heap.size w w' := by
  have c5 := rmemory_any K.C K.D K.S K.B K.a K.g K.k hK.b hK.b8 hK.c8 hK.d16 hK.s64 hK.d1
  have hYl : (memX K.C K.D K.B (nW K.C K.D K.B K.S) (K.S - 1)).length = K.N := memX_len _ _ _ _ _
  have hYb := memX_lt K.C K.D K.B K.S (K.S - 1) hK.d1 hK.s64
  rw [show nW K.C K.D K.B K.S = K.N from rfl] at c5
  rw [show nW K.C K.D K.B K.S = K.N from rfl] at hYl hYb
  have HL : Hid (laidX K n Z nr rr nv vv = (heapX K n Z nr rr nv vv).set 2 (grN K (heapX K n Z nr rr nv vv) K.S)) := rfl
  have HH : Hid (heapX K n Z nr rr nv vv = viewsX K vv (rootsX K rr ((slotsX K n Z (memX K.C K.D K.B K.N (K.S - 1)) K.S).1.set 3 (slotsX K n Z (memX K.C K.D K.B K.N (K.S - 1)) K.S).2) (min nr (K.C * (K.D + 1)))) (min nv K.C)) := rfl
  generalize memX K.C K.D K.B K.N (K.S - 1) = Y at *
  generalize laidX K n Z nr rr nv vv = LX at *
  generalize heapX K n Z nr rr nv vv = HX at *
  have hN := hK.N_b
  have hS := hK.s64
  have hS1 := hK.s1
  have hB8 := hK.b8
  have hC8 := hK.c8
  have hD16 := hK.d16
  have hD1 := hK.d1
  have HR := hid1 hr
  have HRR := hid1 hrr
  have HVV := hid1 hvv
  clear hr hrr hvv
  have bel := alloc_below w (.cells #[.int .i64 (K.S : Nat), .int .i64 K.a, .int .i64 (K.C : Nat), .int .i64 (K.D : Nat), .int .i64 K.g, .int .i64 K.k] 23)
  have hh := cfg_new w K.S K.a K.C K.D K.g K.k
  replace hw := hw.below bel
  unfold Cf.cs at *
  go_enter Tryz.func9, Tryz.ntmps9
  go_upto_region 1 with fail
  generalize w.alloc (.cells #[.int .i64 (K.S : Nat), .int .i64 K.a, .int .i64 (K.C : Nat), .int .i64 (K.D : Nat), .int .i64 K.g, .int .i64 K.k] 23) = w0 at *
  obtain ⟨l0, l1, l2, l3, l4, l5⟩ := hh.cells
  go_wp2_with (go_at_call 35; with_reducible refine (c5 _).mono ?_; rintro e w5 ⟨R, rfl, hX, hR, hb⟩; have hlt0 := hh.lt; replace bel := seq_below bel hb; replace hh := hh.below hb; replace hw := hw.below hb; clear hb l0 l1 l2 l3 l4 l5; obtain ⟨l0, l1, l2, l3, l4, l5⟩ := hh.cells)
  have hR1 : w.heap.size + 1 ≤ R := by omega
  have hcR : w.heap.size ≠ R := by omega
  clear hR hlt0 c5
  have is : L1 w _ K R n Z Y 0 := ⟨Nat.zero_le _, ⟨hX, hh, bel, hw⟩, ⟨hYl, hYb⟩, Nat.zero_le _⟩
  clear hX hh bel hw hYl hYb
  go_loopw [10, 11] (fun tv iv wr => ∃ (d : Nat) (z : Int), Hid (z = (K.S : Int) - 1 - d) ∧ iv = .int .i64 z ∧ tv = .int .u64 (((slotsX K n Z Y d).2 : Nat) : Int) ∧ L1 w wr K R n Z Y d) (fun _ iv _ => (intOf iv + 1).toNat)
  case atStart => exact ⟨0, (K.S : Int) - 1, show _ = _ by simp, by go_num, rfl, is⟩
  case round =>
    clear is l0 l1 l2 l3 l4 l5
    obtain ⟨d, z, hz, rfl, rfl, is⟩ := hrel
    obtain ⟨l0, l1, l2, l3, l4, l5⟩ := is.fl.cfg.cells
    by_cases hd : d < K.S
    · obtain ⟨s, hs⟩ : ∃ s : Nat, s = K.S - 1 - d := ⟨_, rfl⟩
      have hsS : s < K.S := by omega
      obtain rfl : z = (s : Int) := by have := hz.out; omega
      have H1 : Hid (slotsX K n Z Y (d + 1) = slotX K n Z s (slotsX K n Z Y d)) := by rw [hs]; exact rfl
      have hd1 : Hid (((s : Int) - 1) = (K.S : Int) - 1 - ((d + 1 : Nat) : Int)) := by have := hz.out; show _ = _; omega
      have e1 : IntKind.i64.wrap ((s : Int) - 1) = (s : Int) - 1 := by rw [IntKind.wrap_i64]; omega
      clear hz
      replace hs : Hid (s = K.S - 1 - d) := hs
      have fl := is.fl
      have fit := is.fit
      have top := is.top
      clear is
      generalize slotsX K n Z Y d = p at *
      obtain ⟨X, tp⟩ := p
      simp only at fl fit top ⊢
      have hnxt := fun (wq : World) (X' : List Nat) (t' : Nat) (e : slotX K n Z s (X, tp) = (X', t')) (f : Fl w wq K R X') (ft : Fitw K X') (ht : t' ≤ K.S) => L1.next (w := w) H1.out e f ft ht hd
      have HNX := hid1 hnxt
      clear hnxt H1 hd
      go_upto_region 7 with fail
      have hd2 : IsHd (wr.alloc (.cells #[.int .i64 0, .int .i64 0, .bool false, .int .i64 0, .int .i64 0, .int .i64 0] 57)) wr.heap.size 0 0 false 0 0 0 := Hh.hd_new wr 0 0 false 0 0 0
      have b1 := alloc_below wr (.cells #[.int .i64 0, .int .i64 0, .bool false, .int .i64 0, .int .i64 0, .int .i64 0] 57)
      have hPR : wr.heap.size ≠ R := by have := lt_of_block (show wr.heap[R]? = _ from fl.ws); omega
      have hPw : w.heap.size < wr.heap.size := fl.cfg.lt
      generalize wr.alloc (.cells #[.int .i64 0, .int .i64 0, .bool false, .int .i64 0, .int .i64 0, .int .i64 0] 57) = w1 at *
      clear l0 l1 l2 l3 l4 l5
      replace fl := fl.below b1
      clear b1
      generalize wr.heap.size = P at *
      obtain ⟨l0, l1, l2, l3, l4, l5⟩ := fl.cfg.cells
      by_cases hsn : s < n
      · obtain ⟨b, off, rfl, hbl, ⟨q0, q1, q2, q3, q4, q5⟩, bad, bcap, q6, hbl6, hbody⟩ := HR.out s hsn
        have HQ := hid1 (fun (wq : World) (bq : Below w.heap.size w wq) => (⟨(bq.cell (p := ⟨b, off + s * 7, none⟩) hbl).trans q0, (bq.cell (p := ⟨b, off + s * 7 + 1, none⟩) hbl).trans q1, (bq.cell (p := ⟨b, off + s * 7 + 2, none⟩) hbl).trans q2, (bq.cell (p := ⟨b, off + s * 7 + 3, none⟩) hbl).trans q3, (bq.cell (p := ⟨b, off + s * 7 + 4, none⟩) hbl).trans q4, (bq.cell (p := ⟨b, off + s * 7 + 5, none⟩) hbl).trans q5, (bq.cell (p := ⟨b, off + s * 7 + 6, none⟩) hbl).trans q6⟩ : wq.cell? ⟨b, off + s * 7, none⟩ = _ ∧ wq.cell? ⟨b, off + s * 7 + 1, none⟩ = _ ∧ wq.cell? ⟨b, off + s * 7 + 2, none⟩ = _ ∧ wq.cell? ⟨b, off + s * 7 + 3, none⟩ = _ ∧ wq.cell? ⟨b, off + s * 7 + 4, none⟩ = _ ∧ wq.cell? ⟨b, off + s * 7 + 5, none⟩ = _ ∧ wq.cell? ⟨b, off + s * 7 + 6, none⟩ = _))
        clear q0 q1 q2 q3 q4 q5 q6
        have HBO := hid1 hbody
        clear hbody
        have hsn1 : (s : Int) < (n : Int) := by omega
        have HU : Hid (useS n Z s = (Z s).ok) := by show useS n Z s = (Z s).ok; unfold useS; rw [decide_eq_true hsn]; rfl
        have HF : Hid (fillX K n Z s X = if useS n Z s = true then bodyX K s (Z s).b X (min K.B (Z s).bl) else X) := rfl
        have HW : Hid (hwS n Z s = if useS n Z s = true then (Z s).word else 0) := rfl
        generalize Z s = zs at *
        obtain ⟨⟨k, m, g, a, nn, ss⟩, bl, bb⟩ := zs
        simp only at *
        obtain ⟨q0, q1, q2, q3, q4, q5, q6⟩ := HQ.out _ fl.bel
        have c26 := Hh.right_any k m g a nn ss
        cases hrt : rightH k m a nn ss
        · rw [hrt] at c26
          have hu : useS n Z s = false := HU.out.trans hrt
          have hF : fillX K n Z s X = X := by rw [HF.out, hu]; rfl
          have hW : hwS n Z s = 0 := by rw [HW.out, hu]; rfl
          have HE := hid1 (slotX_zero (p := (X, tp)) hF hW rfl)
          clear hu hF hW hrt HF HW HU HBO hbl6 hbl
          go_upto_region 13 with (go_at_call 36; with_reducible refine (c26 _).mono ?_; rintro r w3 ⟨rfl, hb⟩; replace fl := fl.below hb; replace hd2 := hd2.below hb; clear hb)
          clear l0 l1 l2 l3 l4 l5 q0 q1 q2 q3 q4 q5 q6 c26
          replace fl := fl.below (Below.refl _ _).drew
          replace hd2 := hd2.below (Below.refl _ _).drew
          have hcell := K.hd_lt hsS
          have hcl : K.hd s < X.length := by rw [fit.len]; exact hcell
          have fz := words_free fl.ws (K.hd s)
          obtain ⟨vj, qj⟩ := words_some fl.ws (K.hd s) hcl
          have c11 := rheader_any hK s hsS
          have c12 := rlink_any hK s hsS
          have c18 := rpack_zero
          unfold Cf.cs at c11 c12
          have hh := fl.cfg
          go_region_held (fun wq => (wq.cell? ⟨w.heap.size, 0, none⟩ = some (.int .i64 (K.S : Nat)) ∧ wq.cell? ⟨w.heap.size, 1, none⟩ = some (.int .i64 K.a) ∧ wq.cell? ⟨w.heap.size, 2, none⟩ = some (.int .i64 (K.C : Nat)) ∧ wq.cell? ⟨w.heap.size, 3, none⟩ = some (.int .i64 (K.D : Nat)) ∧ wq.cell? ⟨w.heap.size, 4, none⟩ = some (.int .i64 K.g) ∧ wq.cell? ⟨w.heap.size, 5, none⟩ = some (.int .i64 K.k)) ∧ (wq.cell? ⟨P, 0, none⟩ = some (.int .i64 0) ∧ wq.cell? ⟨P, 1, none⟩ = some (.int .i64 0) ∧ wq.cell? ⟨P, 2, none⟩ = some (.bool false) ∧ wq.cell? ⟨P, 3, none⟩ = some (.int .i64 0) ∧ wq.cell? ⟨P, 4, none⟩ = some (.int .i64 0) ∧ wq.cell? ⟨P, 5, none⟩ = some (.int .i64 0))) (first | with_reducible exact ⟨hh.cells, hd2.cells⟩ | with_reducible exact ⟨(cfg_stored hh hcR _).cells, (hd_apart hd2 hPR _).cells⟩) (first
            | (go_at_call 38; with_reducible refine (c11 _).mono ?_; rintro r w4 ⟨rfl, hb⟩; replace fl := fl.below hb; replace hh := hh.below hb; replace hd2 := hd2.below hb; have fz := words_free fl.ws (K.hd s); obtain ⟨vj, qj⟩ := words_some fl.ws (K.hd s) hcl)
            | (go_at_call 39; with_reducible refine (c18 _).mono ?_; rintro r w4 ⟨rfl, hb⟩; replace fl := fl.below hb; replace hh := hh.below hb; replace hd2 := hd2.below hb; have fz := words_free fl.ws (K.hd s); obtain ⟨vj, qj⟩ := words_some fl.ws (K.hd s) hcl))
          all_goals
            have fl2 : Fl w (w4.setCell ⟨R, K.hd s, none⟩ (.int .u64 0)) K R (X.set (K.hd s) 0) := fl.set hR1 (K.hd s) 0
            have hd3 := hd_apart (i := K.hd s) hd2 hPR (.int .u64 0)
            have fit2 := fit.set (K.hd s) (W := 0) (by omega)
            clear fl hh hd2 fz qj c11 c18
            go_upto_region 14 with fail
            generalize w4.setCell ⟨R, K.hd s, none⟩ (.int .u64 0) = w6 at *
            have h0 := hd3.cells.1
            obtain ⟨l0, l1, l2, l3, l4, l5⟩ := fl2.cfg.cells
            have hlk := hK.lk_lt hsS
            have hll : K.lk s < (X.set (K.hd s) 0).length := by rw [fit2.len]; exact hK.lk_lt hsS
            have e2 : IntKind.i64.wrap ((s : Int) + 1) = ((s + 1 : Nat) : Int) := by rw [IntKind.wrap_i64]; omega
            have e3 : IntKind.u64.wrap ((s + 1 : Nat) : Int) = ((s + 1 : Nat) : Int) := by rw [IntKind.wrap_u64]; omega
            clear hd3
            go_wp2_with (go_at_call 38; with_reducible refine (c12 _).mono ?_; rintro r w7 ⟨rfl, hb⟩; replace fl2 := fl2.below hb; clear l0 l1 l2 l3 l4 l5 h0; have fz := words_free fl2.ws (K.lk s); obtain ⟨vj, qj⟩ := words_some fl2.ws (K.lk s) hll)
            go_roundw
            case rel =>
              obtain ⟨y1, y2⟩ := HNX.out _ _ _ HE.out (fl2.set hR1 (K.lk s) tp) (fit2.set _ (by omega)) (by omega)
              exact ⟨d + 1, (s : Int) - 1, hd1, by go_num, by rw [y2]; go_num, y1⟩
            case measure => (first | (simp [intOf]; done) | (simp [intOf]; omega))
        · rw [hrt] at c26
          have hok : Sv.ok ⟨⟨k, m, g, a, nn, ss⟩, bl, bb⟩ = true := hrt
          obtain ⟨Kk, Mk, A, Nn, Sk, hH, ek, em, ea, en, es, ew⟩ := Sv.parts hok
          simp only at ek em ea en es ew
          have hu : useS n Z s = true := HU.out.trans hok
          have hF : fillX K n Z s X = bodyX K s bb X (min K.B bl) := by rw [HF.out, if_pos hu]
          have hW : hwS n Z s = wordOf Kk Mk g.toNat A Nn Sk := by rw [HW.out, if_pos hu]; exact ew
          subst ek em ea en es
          have hWlt := Hh.wordOf_lt Kk Mk g.toNat A Nn Sk (by have := hH.k; omega) hH.m (Hh.bool_lt _) hH.a hH.n hH.s
          have hkw := kind_word g hH
          have c18 := Hh.rpack_any Kk Mk g A Nn Sk hH.k hH.m hH.a hH.n hH.s
          have HEz := hid1 (fun (h : Kk = 0) => slotX_zero (p := (X, tp)) hF hW (by rw [hkw]; exact h))
          have HEm := hid1 (fun (h : ¬ Kk = 0) => slotX_more (p := (X, tp)) hF hW (by rw [hkw]; exact h))
          have FB := hid1 (fun (i : Nat) (hi : i ≤ min K.B bl) => fit.body s (b := bb) i (fun j hj => by obtain ⟨_, _, _, _, _, hx⟩ := HBO.out j (by omega); exact hx))
          simp only at HEz HEm
          generalize wordOf Kk Mk g.toNat A Nn Sk = W at *
          have c32 := rroom_any hK
          unfold Cf.cs at c32
          clear hu hF hW hrt hok ew HF HW HU hkw hH fit
          go_upto_region 8 with (go_at_call 36; with_reducible refine (c26 _).mono ?_; rintro r w3 ⟨rfl, hb⟩; replace fl := fl.below hb; replace hd2 := hd2.below hb; clear hb)
          clear l0 l1 l2 l3 l4 l5 q0 q1 q2 q3 q4 q5 q6 c26
          obtain ⟨q0, q1, q2, q3, q4, q5, q6⟩ := HQ.out _ fl.bel
          obtain ⟨h0, h1, h2, h3, h4, h5⟩ := hd2.cells
          have y0 := hd2.free 0
          have y1 := hd2.free 1
          have y2 := hd2.free 2
          have y3 := hd2.free 3
          have y4 := hd2.free 4
          have y5 := hd2.free 5
          have hd3 := hd_six hd2 (Kk : Nat) (Mk : Nat) g (A : Nat) (Nn : Nat) (Sk : Nat)
          have fl3 := fl.six hPR hPw (.int .i64 (Kk : Nat)) (.int .i64 (Mk : Nat)) (.bool g) (.int .i64 (A : Nat)) (.int .i64 (Nn : Nat)) (.int .i64 (Sk : Nat))
          clear fl hd2
          go_upto_region 9 with fail
          clear h0 h1 h2 h3 h4 h5 y0 y1 y2 y3 y4 y5 q0 q1 q2 q3 q4 q5 q6
          generalize ((((((w3.setCell ⟨P, 0, none⟩ (.int .i64 (Kk : Nat))).setCell ⟨P, 1, none⟩ (.int .i64 (Mk : Nat))).setCell ⟨P, 2, none⟩ (.bool g)).setCell ⟨P, 3, none⟩ (.int .i64 (A : Nat))).setCell ⟨P, 4, none⟩ (.int .i64 (Nn : Nat))).setCell ⟨P, 5, none⟩ (.int .i64 (Sk : Nat))) = w4 at *
          go_wp2
          go_loopw [13] (fun iv wr => ∃ i : Nat, i ≤ min K.B bl ∧ iv = .int .i64 i ∧ Fl w wr K R (bodyX K s bb X i) ∧ IsHd wr P Kk Mk g A Nn Sk) (fun iv _ => K.B - (intOf iv).toNat)
          case atStart => exact ⟨0, Nat.zero_le _, rfl, fl3, hd3⟩
          case round =>
            clear fl3 hd3
            obtain ⟨i, hi, rfl, fl, hd2⟩ := hrel
            obtain ⟨l0, l1, l2, l3, l4, l5⟩ := fl.cfg.cells
            have q6 := (HQ.out _ fl.bel).2.2.2.2.2.2
            by_cases hiB : i < K.B
            · have hiB1 : (i : Int) < (K.B : Int) := by omega
              by_cases hil : i < bl
              · have hil1 : (i : Int) < (bl : Int) := by omega
                obtain ⟨b', off', rfl, hbl', qw, hbw⟩ := HBO.out i hil
                have c10 := rbody_any hK s i hsS hiB
                unfold Cf.cs at c10
                have HS := hid1 (fun (wq : World) (X' : List Nat) (f : Fl w wq K R X') => And.intro f.cfg.cells (And.intro (HQ.out _ f.bel).2.2.2.2.2.2 ((f.bel.cell (p := ⟨b', off' + i, none⟩) hbl').trans qw)))
                go_upto_region 12 with (go_at_call 37; with_reducible refine (c32 _).mono ?_; rintro r w3 ⟨rfl, hb⟩; replace fl := fl.below hb; replace hd2 := hd2.below hb; clear hb; clear l0 l1 l2 l3 l4 l5 q6; obtain ⟨l0, l1, l2, l3, l4, l5⟩ := fl.cfg.cells; have q6 := (HQ.out _ fl.bel).2.2.2.2.2.2)
                clear l0 l1 l2 l3 l4 l5 q6 qw
                have fit2 := FB.out i hi
                have hcell := K.bd_lt hsS hiB
                have hcl : K.bd s i < (bodyX K s bb X i).length := by rw [fit2.len]; exact hcell
                have HX2 : Hid (bodyX K s bb X (i + 1) = (bodyX K s bb X i).set (K.bd s i) (bb i)) := rfl
                generalize bodyX K s bb X i = X2 at *
                generalize bb i = bw at *
                replace fl := fl.below (Below.refl _ _).drew
                replace hd2 := hd2.below (Below.refl _ _).drew
                have fz := words_free fl.ws (K.bd s i)
                obtain ⟨vj, qj⟩ := words_some fl.ws (K.bd s i) hcl
                have e4 : IntKind.i64.wrap ((i : Int) + 1) = ((i + 1 : Nat) : Int) := by rw [IntKind.wrap_i64]; omega
                clear c32 hi
                go_region_held (fun wq => (wq.cell? ⟨w.heap.size, 0, none⟩ = some (.int .i64 (K.S : Nat)) ∧ wq.cell? ⟨w.heap.size, 1, none⟩ = some (.int .i64 K.a) ∧ wq.cell? ⟨w.heap.size, 2, none⟩ = some (.int .i64 (K.C : Nat)) ∧ wq.cell? ⟨w.heap.size, 3, none⟩ = some (.int .i64 (K.D : Nat)) ∧ wq.cell? ⟨w.heap.size, 4, none⟩ = some (.int .i64 K.g) ∧ wq.cell? ⟨w.heap.size, 5, none⟩ = some (.int .i64 K.k)) ∧ wq.cell? ⟨b, off + s * 7 + 6, none⟩ = some (.slice (some ⟨b', off', none⟩) bl bcap) ∧ wq.cell? ⟨b', off' + i, none⟩ = some (.int .u64 (bw : Nat))) (first | with_reducible exact HS.out _ _ fl | with_reducible exact HS.out _ _ (fl.set hR1 (K.bd s i) bw)) (first
                  | (go_at_call 38; with_reducible refine (c10 _).mono ?_; rintro r w5 ⟨rfl, hb⟩; replace fl := fl.below hb; replace hd2 := hd2.below hb; have fz := words_free fl.ws (K.bd s i); obtain ⟨vj, qj⟩ := words_some fl.ws (K.bd s i) hcl))
                all_goals
                  go_wp2
                  go_roundw
                  case rel => exact ⟨i + 1, by omega, by go_num, by rw [HX2.out]; exact fl.set hR1 (K.bd s i) bw, hd_apart hd2 hPR _⟩
                  case measure => (first | (simp [intOf]; done) | (simp [intOf]; omega))
              · have hil1 : ¬ (i : Int) < (bl : Int) := by omega
                obtain rfl : i = min K.B bl := by omega
                have fit2 : Fitw K (bodyX K s bb X (min K.B bl)) := FB.out _ (Nat.le_refl _)
                go_upto_region 13 with (go_at_call 37; with_reducible refine (c32 _).mono ?_; rintro r w3 ⟨rfl, hb⟩; replace fl := fl.below hb; replace hd2 := hd2.below hb; clear hb; clear l0 l1 l2 l3 l4 l5 q6; obtain ⟨l0, l1, l2, l3, l4, l5⟩ := fl.cfg.cells; have q6 := (HQ.out _ fl.bel).2.2.2.2.2.2)
                generalize bodyX K s bb X (min K.B bl) = X2 at *
                clear l0 l1 l2 l3 l4 l5 q6
                replace fl := fl.below (Below.refl _ _).drew
                replace hd2 := hd2.below (Below.refl _ _).drew
                have hcell := K.hd_lt hsS
                have hcl : K.hd s < X2.length := by rw [fit2.len]; exact hcell
                have fz := words_free fl.ws (K.hd s)
                obtain ⟨vj, qj⟩ := words_some fl.ws (K.hd s) hcl
                have c11 := rheader_any hK s hsS
                have c12 := rlink_any hK s hsS
                unfold Cf.cs at c11 c12
                have hh := fl.cfg
                clear c32
                go_region_held (fun wq => (wq.cell? ⟨w.heap.size, 0, none⟩ = some (.int .i64 (K.S : Nat)) ∧ wq.cell? ⟨w.heap.size, 1, none⟩ = some (.int .i64 K.a) ∧ wq.cell? ⟨w.heap.size, 2, none⟩ = some (.int .i64 (K.C : Nat)) ∧ wq.cell? ⟨w.heap.size, 3, none⟩ = some (.int .i64 (K.D : Nat)) ∧ wq.cell? ⟨w.heap.size, 4, none⟩ = some (.int .i64 K.g) ∧ wq.cell? ⟨w.heap.size, 5, none⟩ = some (.int .i64 K.k)) ∧ (wq.cell? ⟨P, 0, none⟩ = some (.int .i64 (Kk : Nat)) ∧ wq.cell? ⟨P, 1, none⟩ = some (.int .i64 (Mk : Nat)) ∧ wq.cell? ⟨P, 2, none⟩ = some (.bool g) ∧ wq.cell? ⟨P, 3, none⟩ = some (.int .i64 (A : Nat)) ∧ wq.cell? ⟨P, 4, none⟩ = some (.int .i64 (Nn : Nat)) ∧ wq.cell? ⟨P, 5, none⟩ = some (.int .i64 (Sk : Nat)))) (first | with_reducible exact ⟨hh.cells, hd2.cells⟩ | with_reducible exact ⟨(cfg_stored hh hcR _).cells, (hd_apart hd2 hPR _).cells⟩) (first
                  | (go_at_call 38; with_reducible refine (c11 _).mono ?_; rintro r w4 ⟨rfl, hb⟩; replace fl := fl.below hb; replace hh := hh.below hb; replace hd2 := hd2.below hb; have fz := words_free fl.ws (K.hd s); obtain ⟨vj, qj⟩ := words_some fl.ws (K.hd s) hcl)
                  | (go_at_call 39; with_reducible refine (c18 _).mono ?_; rintro r w4 ⟨rfl, hb⟩; replace fl := fl.below hb; replace hh := hh.below hb; replace hd2 := hd2.below hb; have fz := words_free fl.ws (K.hd s); obtain ⟨vj, qj⟩ := words_some fl.ws (K.hd s) hcl))
                all_goals
                  have fl2 := fl.set hR1 (K.hd s) W
                  have hd3 := hd_apart (i := K.hd s) hd2 hPR (.int .u64 (W : Nat))
                  have fit3 := fit2.set (K.hd s) hWlt
                  clear fl hh hd2 fz qj c11 c18
                  go_upto_region 14 with fail
                  generalize w4.setCell ⟨R, K.hd s, none⟩ (.int .u64 (W : Nat)) = w6 at *
                  have h0 := hd3.cells.1
                  obtain ⟨l0, l1, l2, l3, l4, l5⟩ := fl2.cfg.cells
                  have hlk := hK.lk_lt hsS
                  have hll : K.lk s < (X2.set (K.hd s) W).length := by rw [fit3.len]; exact hlk
                  have e2 : IntKind.i64.wrap ((s : Int) + 1) = ((s + 1 : Nat) : Int) := by rw [IntKind.wrap_i64]; omega
                  have e3 : IntKind.u64.wrap ((s + 1 : Nat) : Int) = ((s + 1 : Nat) : Int) := by rw [IntKind.wrap_u64]; omega
                  clear hd3
                  by_cases hk0 : Kk = 0
                  · have he := HEz.out hk0
                    have HE := hid1 he
                    clear he
                    have hk1 : (Kk : Int) = 0 := by omega
                    have hk2 : ((Kk : Int) == 0) = true := by simpa using hk0
                    clear hk0 hk1
                    go_wp2_with (go_at_call 38; with_reducible refine (c12 _).mono ?_; rintro r w7 ⟨rfl, hb⟩; replace fl2 := fl2.below hb; clear l0 l1 l2 l3 l4 l5 h0; have fz := words_free fl2.ws (K.lk s); obtain ⟨vj, qj⟩ := words_some fl2.ws (K.lk s) hll)
                    go_roundw
                    case rel =>
                      obtain ⟨y1, y2⟩ := HNX.out _ _ _ HE.out (fl2.set hR1 (K.lk s) tp) (fit3.set _ (by omega)) (by omega)
                      exact ⟨d + 1, (s : Int) - 1, hd1, by go_num, by rw [y2]; go_num, y1⟩
                    case measure => (first | (simp [intOf]; done) | (simp [intOf]; omega))
                  · have he := HEm.out hk0
                    have HE := hid1 he
                    clear he
                    have hk1 : ¬ (Kk : Int) = 0 := by omega
                    have hk2 : ((Kk : Int) == 0) = false := by simpa using hk0
                    clear hk0
                    go_wp2
                    go_roundw
                    case rel =>
                      obtain ⟨y1, y2⟩ := HNX.out _ _ _ HE.out fl2 fit3 top
                      exact ⟨d + 1, (s : Int) - 1, hd1, by go_num, by rw [y2], y1⟩
                    case measure => (first | (simp [intOf]; done) | (simp [intOf]; omega))
            · have hiB1 : ¬ (i : Int) < (K.B : Int) := by omega
              obtain rfl : i = min K.B bl := by omega
              have fit2 : Fitw K (bodyX K s bb X (min K.B bl)) := FB.out _ (Nat.le_refl _)
              go_upto_region 13 with (go_at_call 37; with_reducible refine (c32 _).mono ?_; rintro r w3 ⟨rfl, hb⟩; replace fl := fl.below hb; replace hd2 := hd2.below hb; clear hb; clear l0 l1 l2 l3 l4 l5 q6; obtain ⟨l0, l1, l2, l3, l4, l5⟩ := fl.cfg.cells; have q6 := (HQ.out _ fl.bel).2.2.2.2.2.2)
              generalize bodyX K s bb X (min K.B bl) = X2 at *
              clear l0 l1 l2 l3 l4 l5 q6
              replace fl := fl.below (Below.refl _ _).drew
              replace hd2 := hd2.below (Below.refl _ _).drew
              have hcell := K.hd_lt hsS
              have hcl : K.hd s < X2.length := by rw [fit2.len]; exact hcell
              have fz := words_free fl.ws (K.hd s)
              obtain ⟨vj, qj⟩ := words_some fl.ws (K.hd s) hcl
              have c11 := rheader_any hK s hsS
              have c12 := rlink_any hK s hsS
              unfold Cf.cs at c11 c12
              have hh := fl.cfg
              clear c32
              go_region_held (fun wq => (wq.cell? ⟨w.heap.size, 0, none⟩ = some (.int .i64 (K.S : Nat)) ∧ wq.cell? ⟨w.heap.size, 1, none⟩ = some (.int .i64 K.a) ∧ wq.cell? ⟨w.heap.size, 2, none⟩ = some (.int .i64 (K.C : Nat)) ∧ wq.cell? ⟨w.heap.size, 3, none⟩ = some (.int .i64 (K.D : Nat)) ∧ wq.cell? ⟨w.heap.size, 4, none⟩ = some (.int .i64 K.g) ∧ wq.cell? ⟨w.heap.size, 5, none⟩ = some (.int .i64 K.k)) ∧ (wq.cell? ⟨P, 0, none⟩ = some (.int .i64 (Kk : Nat)) ∧ wq.cell? ⟨P, 1, none⟩ = some (.int .i64 (Mk : Nat)) ∧ wq.cell? ⟨P, 2, none⟩ = some (.bool g) ∧ wq.cell? ⟨P, 3, none⟩ = some (.int .i64 (A : Nat)) ∧ wq.cell? ⟨P, 4, none⟩ = some (.int .i64 (Nn : Nat)) ∧ wq.cell? ⟨P, 5, none⟩ = some (.int .i64 (Sk : Nat)))) (first | with_reducible exact ⟨hh.cells, hd2.cells⟩ | with_reducible exact ⟨(cfg_stored hh hcR _).cells, (hd_apart hd2 hPR _).cells⟩) (first
                | (go_at_call 38; with_reducible refine (c11 _).mono ?_; rintro r w4 ⟨rfl, hb⟩; replace fl := fl.below hb; replace hh := hh.below hb; replace hd2 := hd2.below hb; have fz := words_free fl.ws (K.hd s); obtain ⟨vj, qj⟩ := words_some fl.ws (K.hd s) hcl)
                | (go_at_call 39; with_reducible refine (c18 _).mono ?_; rintro r w4 ⟨rfl, hb⟩; replace fl := fl.below hb; replace hh := hh.below hb; replace hd2 := hd2.below hb; have fz := words_free fl.ws (K.hd s); obtain ⟨vj, qj⟩ := words_some fl.ws (K.hd s) hcl))
              all_goals
                have fl2 := fl.set hR1 (K.hd s) W
                have hd3 := hd_apart (i := K.hd s) hd2 hPR (.int .u64 (W : Nat))
                have fit3 := fit2.set (K.hd s) hWlt
                clear fl hh hd2 fz qj c11 c18
                go_upto_region 14 with fail
                generalize w4.setCell ⟨R, K.hd s, none⟩ (.int .u64 (W : Nat)) = w6 at *
                have h0 := hd3.cells.1
                obtain ⟨l0, l1, l2, l3, l4, l5⟩ := fl2.cfg.cells
                have hlk := hK.lk_lt hsS
                have hll : K.lk s < (X2.set (K.hd s) W).length := by rw [fit3.len]; exact hlk
                have e2 : IntKind.i64.wrap ((s : Int) + 1) = ((s + 1 : Nat) : Int) := by rw [IntKind.wrap_i64]; omega
                have e3 : IntKind.u64.wrap ((s + 1 : Nat) : Int) = ((s + 1 : Nat) : Int) := by rw [IntKind.wrap_u64]; omega
                clear hd3
                by_cases hk0 : Kk = 0
                · have he := HEz.out hk0
                  have HE := hid1 he
                  clear he
                  have hk1 : (Kk : Int) = 0 := by omega
                  have hk2 : ((Kk : Int) == 0) = true := by simpa using hk0
                  clear hk0 hk1
                  go_wp2_with (go_at_call 38; with_reducible refine (c12 _).mono ?_; rintro r w7 ⟨rfl, hb⟩; replace fl2 := fl2.below hb; clear l0 l1 l2 l3 l4 l5 h0; have fz := words_free fl2.ws (K.lk s); obtain ⟨vj, qj⟩ := words_some fl2.ws (K.lk s) hll)
                  go_roundw
                  case rel =>
                    obtain ⟨y1, y2⟩ := HNX.out _ _ _ HE.out (fl2.set hR1 (K.lk s) tp) (fit3.set _ (by omega)) (by omega)
                    exact ⟨d + 1, (s : Int) - 1, hd1, by go_num, by rw [y2]; go_num, y1⟩
                  case measure => (first | (simp [intOf]; done) | (simp [intOf]; omega))
                · have he := HEm.out hk0
                  have HE := hid1 he
                  clear he
                  have hk1 : ¬ (Kk : Int) = 0 := by omega
                  have hk2 : ((Kk : Int) == 0) = false := by simpa using hk0
                  clear hk0
                  go_wp2
                  go_roundw
                  case rel =>
                    obtain ⟨y1, y2⟩ := HNX.out _ _ _ HE.out fl2 fit3 top
                    exact ⟨d + 1, (s : Int) - 1, hd1, by go_num, by rw [y2], y1⟩
                  case measure => (first | (simp [intOf]; done) | (simp [intOf]; omega))
      · have hu : useS n Z s = false := by unfold useS; rw [decide_eq_false hsn]; rfl
        have hsn1 : ¬ (s : Int) < (n : Int) := by omega
        have hsn2 : decide ((s : Int) < (n : Int)) = false := decide_eq_false hsn1
        have hF : fillX K n Z s X = X := by unfold fillX; rw [hu]; rfl
        have hW : hwS n Z s = 0 := by unfold hwS; rw [hu]; rfl
        have HE := hid1 (slotX_zero (p := (X, tp)) hF hW rfl)
        clear hu hF hW
        go_upto_region 13 with fail
        clear l0 l1 l2 l3 l4 l5
        replace fl := fl.below (Below.refl _ _).drew
        replace hd2 := hd2.below (Below.refl _ _).drew
        have hcell := K.hd_lt hsS
        have hcl : K.hd s < X.length := by rw [fit.len]; exact hcell
        have fz := words_free fl.ws (K.hd s)
        obtain ⟨vj, qj⟩ := words_some fl.ws (K.hd s) hcl
        have c11 := rheader_any hK s hsS
        have c12 := rlink_any hK s hsS
        have c18 := rpack_zero
        unfold Cf.cs at c11 c12
        have hh := fl.cfg
        go_region_held (fun wq => (wq.cell? ⟨w.heap.size, 0, none⟩ = some (.int .i64 (K.S : Nat)) ∧ wq.cell? ⟨w.heap.size, 1, none⟩ = some (.int .i64 K.a) ∧ wq.cell? ⟨w.heap.size, 2, none⟩ = some (.int .i64 (K.C : Nat)) ∧ wq.cell? ⟨w.heap.size, 3, none⟩ = some (.int .i64 (K.D : Nat)) ∧ wq.cell? ⟨w.heap.size, 4, none⟩ = some (.int .i64 K.g) ∧ wq.cell? ⟨w.heap.size, 5, none⟩ = some (.int .i64 K.k)) ∧ (wq.cell? ⟨P, 0, none⟩ = some (.int .i64 0) ∧ wq.cell? ⟨P, 1, none⟩ = some (.int .i64 0) ∧ wq.cell? ⟨P, 2, none⟩ = some (.bool false) ∧ wq.cell? ⟨P, 3, none⟩ = some (.int .i64 0) ∧ wq.cell? ⟨P, 4, none⟩ = some (.int .i64 0) ∧ wq.cell? ⟨P, 5, none⟩ = some (.int .i64 0))) (first | with_reducible exact ⟨hh.cells, hd2.cells⟩ | with_reducible exact ⟨(cfg_stored hh hcR _).cells, (hd_apart hd2 hPR _).cells⟩) (first
          | (go_at_call 38; with_reducible refine (c11 _).mono ?_; rintro r w4 ⟨rfl, hb⟩; replace fl := fl.below hb; replace hh := hh.below hb; replace hd2 := hd2.below hb; have fz := words_free fl.ws (K.hd s); obtain ⟨vj, qj⟩ := words_some fl.ws (K.hd s) hcl)
          | (go_at_call 39; with_reducible refine (c18 _).mono ?_; rintro r w4 ⟨rfl, hb⟩; replace fl := fl.below hb; replace hh := hh.below hb; replace hd2 := hd2.below hb; have fz := words_free fl.ws (K.hd s); obtain ⟨vj, qj⟩ := words_some fl.ws (K.hd s) hcl))
        all_goals
          have fl2 : Fl w (w4.setCell ⟨R, K.hd s, none⟩ (.int .u64 0)) K R (X.set (K.hd s) 0) := fl.set hR1 (K.hd s) 0
          have hd3 := hd_apart (i := K.hd s) hd2 hPR (.int .u64 0)
          have fit2 := fit.set (K.hd s) (W := 0) (by omega)
          clear fl hh hd2 fz qj c11 c18
          go_upto_region 14 with fail
          generalize w4.setCell ⟨R, K.hd s, none⟩ (.int .u64 0) = w6 at *
          have h0 := hd3.cells.1
          obtain ⟨l0, l1, l2, l3, l4, l5⟩ := fl2.cfg.cells
          have hlk := hK.lk_lt hsS
          have hll : K.lk s < (X.set (K.hd s) 0).length := by rw [fit2.len]; exact hK.lk_lt hsS
          have e2 : IntKind.i64.wrap ((s : Int) + 1) = ((s + 1 : Nat) : Int) := by rw [IntKind.wrap_i64]; omega
          have e3 : IntKind.u64.wrap ((s + 1 : Nat) : Int) = ((s + 1 : Nat) : Int) := by rw [IntKind.wrap_u64]; omega
          clear hd3
          go_wp2_with (go_at_call 38; with_reducible refine (c12 _).mono ?_; rintro r w7 ⟨rfl, hb⟩; replace fl2 := fl2.below hb; clear l0 l1 l2 l3 l4 l5 h0; have fz := words_free fl2.ws (K.lk s); obtain ⟨vj, qj⟩ := words_some fl2.ws (K.lk s) hll)
          go_roundw
          case rel =>
            obtain ⟨y1, y2⟩ := HNX.out _ _ _ HE.out (fl2.set hR1 (K.lk s) tp) (fit2.set _ (by omega)) (by omega)
            exact ⟨d + 1, (s : Int) - 1, hd1, by go_num, by rw [y2]; go_num, y1⟩
          case measure => (first | (simp [intOf]; done) | (simp [intOf]; omega))
    · obtain rfl : d = K.S := by have := is.le; omega
      have hz2 : ¬ (0 : Int) ≤ z := by have := hz.out; omega
      have fl := is.fl
      have fit := is.fit
      have top := is.top
      clear is hd hz
      generalize slotsX K n Z Y K.S = p at *
      obtain ⟨X, tp⟩ := p
      simp only at fl fit top HH ⊢
      have h3l : 3 < X.length := by rw [fit.len]; omega
      have fz := words_free fl.ws 3
      obtain ⟨vj, qj⟩ := words_some fl.ws 3 h3l
      have fl2 := fl.set hR1 3 tp
      have fit2 := fit.set 3 (W := tp) (by omega)
      clear fl fit HR
      go_upto_region 18 with fail
      generalize wr.setCell ⟨R, 3, none⟩ (.int .u64 (tp : Nat)) = w2 at *
      clear fz qj l0 l1 l2 l3 l4 l5
      go_wp2
      go_loopw [14] (fun kv wr => ∃ k : Nat, k ≤ min nr (K.C * (K.D + 1)) ∧ kv = .int .i64 k ∧ Fl w wr K R (rootsX K rr (X.set 3 tp) k) ∧ Fitw K (rootsX K rr (X.set 3 tp) k)) (fun kv _ => nr - (intOf kv).toNat)
      case atStart => exact ⟨0, Nat.zero_le _, rfl, fl2, fit2⟩
      case round =>
        clear fl2 fit2
        obtain ⟨k, hk, rfl, fl, fit⟩ := hrel
        obtain ⟨l0, l1, l2, l3, l4, l5⟩ := fl.cfg.cells
        have e5 : IntKind.i64.wrap ((K.D : Int) + 1) = ((K.D + 1 : Nat) : Int) := by rw [IntKind.wrap_i64]; omega
        have e6 : IntKind.i64.wrap ((K.C : Int) * ((K.D + 1 : Nat) : Int)) = ((K.C * (K.D + 1) : Nat) : Int) := by
          have h1 : K.C * (K.D + 1) ≤ 8 * 17 := Nat.mul_le_mul hC8 (by omega)
          rw [← Int.natCast_mul, IntKind.wrap_i64]; omega
        have hC1 := hK.c1'
        generalize hCD : K.C * (K.D + 1) = CD at *
        generalize hD1' : K.D + 1 = D1 at *
        by_cases hkn : k < nr
        · have hkn1 : (k : Int) < (nr : Int) := by omega
          by_cases hkc : k < CD
          · have hkc1 : (k : Int) < (CD : Int) := by omega
            obtain ⟨q, hq⟩ : ∃ q, k % K.C = q := ⟨_, rfl⟩
            obtain ⟨i, hi⟩ : ∃ i, k / K.C = i := ⟨_, rfl⟩
            have hqC : q < K.C := by rw [← hq]; exact Nat.mod_lt _ hC1
            have hCD17 : CD ≤ 8 * 17 := by rw [← hCD]; exact Nat.mul_le_mul hC8 (by omega)
            have hiD : i ≤ k := by rw [← hi]; exact Nat.div_le_self _ _
            obtain ⟨b', off', rfl, hbl', qw, hrw⟩ := HRR.out k hkn
            obtain ⟨rw', hrw'⟩ : ∃ x, rr k = x := ⟨_, rfl⟩
            rw [hrw'] at qw hrw
            have HS := hid1 (fun (wq : World) (X' : List Nat) (f : Fl w wq K R X') => And.intro f.cfg.cells ((f.bel.cell (p := ⟨b', off' + k, none⟩) hbl').trans qw))
            have HRT : Hid (rootsX K rr (X.set 3 tp) (k + 1) = if i < K.D then (rootsX K rr (X.set 3 tp) k).set (K.en q i) (rw' % 20) else (rootsX K rr (X.set 3 tp) k).set (K.st q) (rw' % 20)) := by show rootX _ _ _ _ = _; unfold rootX; rw [hq, hi, hrw']
            clear hrw'
            generalize rootsX K rr (X.set 3 tp) k = X2 at *
            have e4 : IntKind.i64.wrap ((k : Int) + 1) = ((k + 1 : Nat) : Int) := by rw [IntKind.wrap_i64]; omega
            have hi62 : i < 4611686018427387904 := by omega
            have e9 : (rw' : Int).tmod 20 = ((rw' % 20 : Nat) : Int) := by rw [Int.tmod_eq_emod_of_nonneg (by omega)]; omega
            have hv20 : rw' % 20 < 18446744073709551616 := by omega
            have hk1 : k + 1 ≤ min nr CD := by omega
            have hcases : i < K.D ∧ (i : Int) < (K.D : Int) ∨ ¬ i < K.D ∧ ¬ (i : Int) < (K.D : Int) := by omega
            have e7 : (k : Int) % (K.C : Int) = (q : Int) := by rw [← hq]; exact (Int.natCast_emod k K.C).symm
            have e8 : wrap64 ((k : Int) / (K.C : Int)) = (i : Int) := by rw [show (k : Int) / (K.C : Int) = (i : Int) by rw [← hi]; exact (Int.natCast_ediv k K.C).symm]; exact wrap64_nat hi62
            replace hq : Hid _ := hq
            replace hi : Hid _ := hi
            clear qw
            rcases hcases with ⟨hid, hidd⟩ | ⟨hid, hidd⟩
            · skip
              have c10 := rentry_any hK q i hqC hid
              unfold Cf.cs at c10
              have hcell := K.en_lt hqC hid
              have hRT : rootsX K rr (X.set 3 tp) (k + 1) = X2.set (K.en q i) (rw' % 20) := by rw [HRT.out, if_pos hid]
              have HRT2 := hid1 hRT
              clear hRT
              go_upto_region 24 with fail
              rw [← e7, ← e8] at c10
              clear e7 e8
              generalize hpos : K.en q i = ps at *
              generalize hval : rw' % 20 = vl at *
              have HST := hid1 (fun (wq : World) (h : Fl w wq K R X2) => (by rw [e9]; exact h.set hR1 ps vl : Fl w (wq.setCell ⟨R, ps, none⟩ (.int .u64 ((rw' : Int).tmod 20))) K R (X2.set ps vl)))
              clear e9
              have hcl : ps < X2.length := by rw [fit.len]; exact hcell
              replace hpos : Hid _ := hpos
              replace hval : Hid _ := hval
              clear l0 l1 l2 l3 l4 l5
              replace fl := fl.below (Below.refl _ _).drew
              have fz := words_free fl.ws ps
              obtain ⟨vj, qj⟩ := words_some fl.ws ps hcl
              go_region_held (fun wq => (wq.cell? ⟨w.heap.size, 0, none⟩ = some (.int .i64 (K.S : Nat)) ∧ wq.cell? ⟨w.heap.size, 1, none⟩ = some (.int .i64 K.a) ∧ wq.cell? ⟨w.heap.size, 2, none⟩ = some (.int .i64 (K.C : Nat)) ∧ wq.cell? ⟨w.heap.size, 3, none⟩ = some (.int .i64 (K.D : Nat)) ∧ wq.cell? ⟨w.heap.size, 4, none⟩ = some (.int .i64 K.g) ∧ wq.cell? ⟨w.heap.size, 5, none⟩ = some (.int .i64 K.k)) ∧ wq.cell? ⟨b', off' + k, none⟩ = some (.int .u64 (rw' : Nat))) (first | with_reducible exact HS.out _ _ fl | with_reducible exact HS.out _ _ (HST.out _ fl)) (first
                | (go_at_call 38; with_reducible refine (c10 _).mono ?_; rintro r w5 ⟨rfl, hb⟩; replace fl := fl.below hb; have fz := words_free fl.ws ps; obtain ⟨vj, qj⟩ := words_some fl.ws ps hcl))
              all_goals
                go_wp2
                go_roundw
                case rel => exact ⟨k + 1, hk1, by go_num, by rw [HRT2.out]; exact HST.out _ fl, by rw [HRT2.out]; exact fit.set ps hv20⟩
                case measure => (first | (simp [intOf]; done) | (simp [intOf]; omega))
            · skip
              have c10 := rstart_any hK q hqC
              unfold Cf.cs at c10
              have hcell := K.st_lt hqC
              have hRT : rootsX K rr (X.set 3 tp) (k + 1) = X2.set (K.st q) (rw' % 20) := by rw [HRT.out, if_neg hid]
              have HRT2 := hid1 hRT
              clear hRT
              go_upto_region 25 with fail
              rw [← e7] at c10
              clear e7 e8
              generalize hpos : K.st q = ps at *
              generalize hval : rw' % 20 = vl at *
              have HST := hid1 (fun (wq : World) (h : Fl w wq K R X2) => (by rw [e9]; exact h.set hR1 ps vl : Fl w (wq.setCell ⟨R, ps, none⟩ (.int .u64 ((rw' : Int).tmod 20))) K R (X2.set ps vl)))
              clear e9
              have hcl : ps < X2.length := by rw [fit.len]; exact hcell
              replace hpos : Hid _ := hpos
              replace hval : Hid _ := hval
              clear l0 l1 l2 l3 l4 l5
              replace fl := fl.below (Below.refl _ _).drew
              have fz := words_free fl.ws ps
              obtain ⟨vj, qj⟩ := words_some fl.ws ps hcl
              go_region_held (fun wq => (wq.cell? ⟨w.heap.size, 0, none⟩ = some (.int .i64 (K.S : Nat)) ∧ wq.cell? ⟨w.heap.size, 1, none⟩ = some (.int .i64 K.a) ∧ wq.cell? ⟨w.heap.size, 2, none⟩ = some (.int .i64 (K.C : Nat)) ∧ wq.cell? ⟨w.heap.size, 3, none⟩ = some (.int .i64 (K.D : Nat)) ∧ wq.cell? ⟨w.heap.size, 4, none⟩ = some (.int .i64 K.g) ∧ wq.cell? ⟨w.heap.size, 5, none⟩ = some (.int .i64 K.k)) ∧ wq.cell? ⟨b', off' + k, none⟩ = some (.int .u64 (rw' : Nat))) (first | with_reducible exact HS.out _ _ fl | with_reducible exact HS.out _ _ (HST.out _ fl)) (first
                | (go_at_call 38; with_reducible refine (c10 _).mono ?_; rintro r w5 ⟨rfl, hb⟩; replace fl := fl.below hb; have fz := words_free fl.ws ps; obtain ⟨vj, qj⟩ := words_some fl.ws ps hcl))
              all_goals
                go_wp2
                go_roundw
                case rel => exact ⟨k + 1, hk1, by go_num, by rw [HRT2.out]; exact HST.out _ fl, by rw [HRT2.out]; exact fit.set ps hv20⟩
                case measure => (first | (simp [intOf]; done) | (simp [intOf]; omega))
          · have hkc1 : ¬ (k : Int) < (CD : Int) := by omega
            obtain rfl : k = min nr CD := by omega
            generalize rootsX K rr (X.set 3 tp) (min nr CD) = X3 at *
            go_upto_region 26 with fail
            clear l0 l1 l2 l3 l4 l5
            go_wp2
            go_loopw [17] (fun kv wr => ∃ k : Nat, k ≤ min nv K.C ∧ kv = .int .i64 k ∧ Fl w wr K R (viewsX K vv X3 k) ∧ Fitw K (viewsX K vv X3 k)) (fun kv _ => nv - (intOf kv).toNat)
            case atStart => exact ⟨0, Nat.zero_le _, rfl, fl, fit⟩
            case round =>
              clear fl fit
              obtain ⟨k, hk, rfl, fl, fit⟩ := hrel
              obtain ⟨l0, l1, l2, l3, l4, l5⟩ := fl.cfg.cells
              by_cases hkn : k < nv
              · have hkn1 : (k : Int) < (nv : Int) := by omega
                by_cases hkC : k < K.C
                · have hkc1 : (k : Int) < (K.C : Int) := by omega
                  have hcell := K.vw_lt hkC
                  have hcl : K.vw k < (viewsX K vv X3 k).length := by rw [fit.len]; exact hcell
                  obtain ⟨b', off', rfl, hbl', qw, hrw⟩ := HVV.out k hkn
                  obtain ⟨vl, hvl⟩ : ∃ x, vv k = x := ⟨_, rfl⟩
                  rw [hvl] at qw hrw
                  have HS := hid1 (fun (wq : World) (X' : List Nat) (f : Fl w wq K R X') => And.intro f.cfg.cells ((f.bel.cell (p := ⟨b', off' + k, none⟩) hbl').trans qw))
                  have HRT : Hid (viewsX K vv X3 (k + 1) = (viewsX K vv X3 k).set (K.vw k) vl) := by show (viewsX K vv X3 k).set (K.vw k) (vv k) = _; rw [hvl]
                  clear hvl qw
                  have e4 : IntKind.i64.wrap ((k : Int) + 1) = ((k + 1 : Nat) : Int) := by rw [IntKind.wrap_i64]; omega
                  have hk1 : k + 1 ≤ min nv K.C := by omega
                  have c10 := rview_any hK k hkC
                  unfold Cf.cs at c10
                  generalize viewsX K vv X3 k = X2 at *
                  go_upto_region 29 with fail
                  clear l0 l1 l2 l3 l4 l5
                  replace fl := fl.below (Below.refl _ _).drew
                  have fz := words_free fl.ws (K.vw k)
                  obtain ⟨vj, qj⟩ := words_some fl.ws (K.vw k) hcl
                  go_region_held (fun wq => (wq.cell? ⟨w.heap.size, 0, none⟩ = some (.int .i64 (K.S : Nat)) ∧ wq.cell? ⟨w.heap.size, 1, none⟩ = some (.int .i64 K.a) ∧ wq.cell? ⟨w.heap.size, 2, none⟩ = some (.int .i64 (K.C : Nat)) ∧ wq.cell? ⟨w.heap.size, 3, none⟩ = some (.int .i64 (K.D : Nat)) ∧ wq.cell? ⟨w.heap.size, 4, none⟩ = some (.int .i64 K.g) ∧ wq.cell? ⟨w.heap.size, 5, none⟩ = some (.int .i64 K.k)) ∧ wq.cell? ⟨b', off' + k, none⟩ = some (.int .u64 (vl : Nat))) (first | with_reducible exact HS.out _ _ fl | with_reducible exact HS.out _ _ (fl.set hR1 (K.vw k) vl)) (first
                    | (go_at_call 38; with_reducible refine (c10 _).mono ?_; rintro r w5 ⟨rfl, hb⟩; replace fl := fl.below hb; have fz := words_free fl.ws (K.vw k); obtain ⟨vj, qj⟩ := words_some fl.ws (K.vw k) hcl))
                  all_goals
                    go_wp2
                    go_roundw
                    case rel => exact ⟨k + 1, hk1, by go_num, by rw [HRT.out]; exact fl.set hR1 (K.vw k) vl, by rw [HRT.out]; exact fit.set (K.vw k) hrw⟩
                    case measure => (first | (simp [intOf]; done) | (simp [intOf]; omega))
                · have hkc1 : ¬ (k : Int) < (K.C : Int) := by omega
                  obtain rfl : k = min nv K.C := by omega
                  generalize viewsX K vv X3 (min nv K.C) = X4 at *
                  obtain rfl : HX = X4 := HH.out
                  have c33 := grays13_any hK (cap := K.N) fit.len fit.at (RdW.of_words fl.ws) fl.wt
                  unfold Cf.cs at c33
                  have hG := grN_le K HX K.S
                  have h2l : 2 < HX.length := by rw [fit.len]; omega
                  have fit2 := fit.set 2 (W := grN K HX K.S) (by omega)
                  rw [← HL.out] at fit2
                  have e10 : IntKind.u64.wrap ((grN K HX K.S : Nat) : Int) = ((grN K HX K.S : Nat) : Int) := by rw [IntKind.wrap_u64]; omega
                  have HS2 := hid1 (fun (wq : World) (h : Fl w wq K R HX) => (HL.out ▸ h.set hR1 2 (grN K HX K.S) : Fl w (wq.setCell ⟨R, 2, none⟩ (.int .u64 ((grN K HX K.S : Nat) : Int))) K R LX))
                  generalize grN K HX K.S = Gn at *
                  clear HL HH
                  go_upto_region 31 with (go_at_call 40; with_reducible refine c33.mono ?_; rintro r w4 ⟨rfl, hb⟩; replace fl := fl.below hb; clear l0 l1 l2 l3 l4 l5; have fz := words_free fl.ws 2; obtain ⟨vj, qj⟩ := words_some fl.ws 2 h2l)
                  have fl2 := HS2.out _ fl
                  clear fl fz qj c33
                  generalize w4.setCell ⟨R, 2, none⟩ (.int .u64 (Gn : Nat)) = w6 at *
                  go_wp2
                  go_ret
                  exact ⟨R, rfl, fl2.ws, fit2, hR1, fl2.bel⟩
              · have hkn1 : ¬ (k : Int) < (nv : Int) := by omega
                obtain rfl : k = min nv K.C := by omega
                generalize viewsX K vv X3 (min nv K.C) = X4 at *
                obtain rfl : HX = X4 := HH.out
                have c33 := grays13_any hK (cap := K.N) fit.len fit.at (RdW.of_words fl.ws) fl.wt
                unfold Cf.cs at c33
                have hG := grN_le K HX K.S
                have h2l : 2 < HX.length := by rw [fit.len]; omega
                have fit2 := fit.set 2 (W := grN K HX K.S) (by omega)
                rw [← HL.out] at fit2
                have e10 : IntKind.u64.wrap ((grN K HX K.S : Nat) : Int) = ((grN K HX K.S : Nat) : Int) := by rw [IntKind.wrap_u64]; omega
                have HS2 := hid1 (fun (wq : World) (h : Fl w wq K R HX) => (HL.out ▸ h.set hR1 2 (grN K HX K.S) : Fl w (wq.setCell ⟨R, 2, none⟩ (.int .u64 ((grN K HX K.S : Nat) : Int))) K R LX))
                generalize grN K HX K.S = Gn at *
                clear HL HH
                go_upto_region 31 with (go_at_call 40; with_reducible refine c33.mono ?_; rintro r w4 ⟨rfl, hb⟩; replace fl := fl.below hb; clear l0 l1 l2 l3 l4 l5; have fz := words_free fl.ws 2; obtain ⟨vj, qj⟩ := words_some fl.ws 2 h2l)
                have fl2 := HS2.out _ fl
                clear fl fz qj c33
                generalize w4.setCell ⟨R, 2, none⟩ (.int .u64 (Gn : Nat)) = w6 at *
                go_wp2
                go_ret
                exact ⟨R, rfl, fl2.ws, fit2, hR1, fl2.bel⟩
        · have hkn1 : ¬ (k : Int) < (nr : Int) := by omega
          obtain rfl : k = min nr CD := by omega
          generalize rootsX K rr (X.set 3 tp) (min nr CD) = X3 at *
          go_upto_region 26 with fail
          clear l0 l1 l2 l3 l4 l5
          go_wp2
          go_loopw [17] (fun kv wr => ∃ k : Nat, k ≤ min nv K.C ∧ kv = .int .i64 k ∧ Fl w wr K R (viewsX K vv X3 k) ∧ Fitw K (viewsX K vv X3 k)) (fun kv _ => nv - (intOf kv).toNat)
          case atStart => exact ⟨0, Nat.zero_le _, rfl, fl, fit⟩
          case round =>
            clear fl fit
            obtain ⟨k, hk, rfl, fl, fit⟩ := hrel
            obtain ⟨l0, l1, l2, l3, l4, l5⟩ := fl.cfg.cells
            by_cases hkn : k < nv
            · have hkn1 : (k : Int) < (nv : Int) := by omega
              by_cases hkC : k < K.C
              · have hkc1 : (k : Int) < (K.C : Int) := by omega
                have hcell := K.vw_lt hkC
                have hcl : K.vw k < (viewsX K vv X3 k).length := by rw [fit.len]; exact hcell
                obtain ⟨b', off', rfl, hbl', qw, hrw⟩ := HVV.out k hkn
                obtain ⟨vl, hvl⟩ : ∃ x, vv k = x := ⟨_, rfl⟩
                rw [hvl] at qw hrw
                have HS := hid1 (fun (wq : World) (X' : List Nat) (f : Fl w wq K R X') => And.intro f.cfg.cells ((f.bel.cell (p := ⟨b', off' + k, none⟩) hbl').trans qw))
                have HRT : Hid (viewsX K vv X3 (k + 1) = (viewsX K vv X3 k).set (K.vw k) vl) := by show (viewsX K vv X3 k).set (K.vw k) (vv k) = _; rw [hvl]
                clear hvl qw
                have e4 : IntKind.i64.wrap ((k : Int) + 1) = ((k + 1 : Nat) : Int) := by rw [IntKind.wrap_i64]; omega
                have hk1 : k + 1 ≤ min nv K.C := by omega
                have c10 := rview_any hK k hkC
                unfold Cf.cs at c10
                generalize viewsX K vv X3 k = X2 at *
                go_upto_region 29 with fail
                clear l0 l1 l2 l3 l4 l5
                replace fl := fl.below (Below.refl _ _).drew
                have fz := words_free fl.ws (K.vw k)
                obtain ⟨vj, qj⟩ := words_some fl.ws (K.vw k) hcl
                go_region_held (fun wq => (wq.cell? ⟨w.heap.size, 0, none⟩ = some (.int .i64 (K.S : Nat)) ∧ wq.cell? ⟨w.heap.size, 1, none⟩ = some (.int .i64 K.a) ∧ wq.cell? ⟨w.heap.size, 2, none⟩ = some (.int .i64 (K.C : Nat)) ∧ wq.cell? ⟨w.heap.size, 3, none⟩ = some (.int .i64 (K.D : Nat)) ∧ wq.cell? ⟨w.heap.size, 4, none⟩ = some (.int .i64 K.g) ∧ wq.cell? ⟨w.heap.size, 5, none⟩ = some (.int .i64 K.k)) ∧ wq.cell? ⟨b', off' + k, none⟩ = some (.int .u64 (vl : Nat))) (first | with_reducible exact HS.out _ _ fl | with_reducible exact HS.out _ _ (fl.set hR1 (K.vw k) vl)) (first
                  | (go_at_call 38; with_reducible refine (c10 _).mono ?_; rintro r w5 ⟨rfl, hb⟩; replace fl := fl.below hb; have fz := words_free fl.ws (K.vw k); obtain ⟨vj, qj⟩ := words_some fl.ws (K.vw k) hcl))
                all_goals
                  go_wp2
                  go_roundw
                  case rel => exact ⟨k + 1, hk1, by go_num, by rw [HRT.out]; exact fl.set hR1 (K.vw k) vl, by rw [HRT.out]; exact fit.set (K.vw k) hrw⟩
                  case measure => (first | (simp [intOf]; done) | (simp [intOf]; omega))
              · have hkc1 : ¬ (k : Int) < (K.C : Int) := by omega
                obtain rfl : k = min nv K.C := by omega
                generalize viewsX K vv X3 (min nv K.C) = X4 at *
                obtain rfl : HX = X4 := HH.out
                have c33 := grays13_any hK (cap := K.N) fit.len fit.at (RdW.of_words fl.ws) fl.wt
                unfold Cf.cs at c33
                have hG := grN_le K HX K.S
                have h2l : 2 < HX.length := by rw [fit.len]; omega
                have fit2 := fit.set 2 (W := grN K HX K.S) (by omega)
                rw [← HL.out] at fit2
                have e10 : IntKind.u64.wrap ((grN K HX K.S : Nat) : Int) = ((grN K HX K.S : Nat) : Int) := by rw [IntKind.wrap_u64]; omega
                have HS2 := hid1 (fun (wq : World) (h : Fl w wq K R HX) => (HL.out ▸ h.set hR1 2 (grN K HX K.S) : Fl w (wq.setCell ⟨R, 2, none⟩ (.int .u64 ((grN K HX K.S : Nat) : Int))) K R LX))
                generalize grN K HX K.S = Gn at *
                clear HL HH
                go_upto_region 31 with (go_at_call 40; with_reducible refine c33.mono ?_; rintro r w4 ⟨rfl, hb⟩; replace fl := fl.below hb; clear l0 l1 l2 l3 l4 l5; have fz := words_free fl.ws 2; obtain ⟨vj, qj⟩ := words_some fl.ws 2 h2l)
                have fl2 := HS2.out _ fl
                clear fl fz qj c33
                generalize w4.setCell ⟨R, 2, none⟩ (.int .u64 (Gn : Nat)) = w6 at *
                go_wp2
                go_ret
                exact ⟨R, rfl, fl2.ws, fit2, hR1, fl2.bel⟩
            · have hkn1 : ¬ (k : Int) < (nv : Int) := by omega
              obtain rfl : k = min nv K.C := by omega
              generalize viewsX K vv X3 (min nv K.C) = X4 at *
              obtain rfl : HX = X4 := HH.out
              have c33 := grays13_any hK (cap := K.N) fit.len fit.at (RdW.of_words fl.ws) fl.wt
              unfold Cf.cs at c33
              have hG := grN_le K HX K.S
              have h2l : 2 < HX.length := by rw [fit.len]; omega
              have fit2 := fit.set 2 (W := grN K HX K.S) (by omega)
              rw [← HL.out] at fit2
              have e10 : IntKind.u64.wrap ((grN K HX K.S : Nat) : Int) = ((grN K HX K.S : Nat) : Int) := by rw [IntKind.wrap_u64]; omega
              have HS2 := hid1 (fun (wq : World) (h : Fl w wq K R HX) => (HL.out ▸ h.set hR1 2 (grN K HX K.S) : Fl w (wq.setCell ⟨R, 2, none⟩ (.int .u64 ((grN K HX K.S : Nat) : Int))) K R LX))
              generalize grN K HX K.S = Gn at *
              clear HL HH
              go_upto_region 31 with (go_at_call 40; with_reducible refine c33.mono ?_; rintro r w4 ⟨rfl, hb⟩; replace fl := fl.below hb; clear l0 l1 l2 l3 l4 l5; have fz := words_free fl.ws 2; obtain ⟨vj, qj⟩ := words_some fl.ws 2 h2l)
              have fl2 := HS2.out _ fl
              clear fl fz qj c33
              generalize w4.setCell ⟨R, 2, none⟩ (.int .u64 (Gn : Nat)) = w6 at *
              go_wp2
              go_ret
              exact ⟨R, rfl, fl2.ws, fit2, hR1, fl2.bel⟩
end Go.Proofs.YtcioomopgdhlmaaGreatDoor
