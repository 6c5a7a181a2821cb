/- What a call may be answered, kind by kind; takes. -/
import Derived.Test.YtecppcakgfohbabNG
namespace Go.Proofs.Ytecppcakgfohbab
open Go.RowKit
set_option linter.unusedSimpArgs false
set_option linter.unusedVariables false

/-- An answer is what it must be, and nothing is done. -/
def refO (X : Sx) (rb : Bool) : Option Sx := if rb = true then some X else none
theorem refO_some (X : Sx) (rb : Bool) : (refO X rb).isSome = rb := by cases rb <;> rfl
theorem refO_get (X : Sx) (rb : Bool) : (refO X rb).getD X = X := by cases rb <;> rfl
/-- A client takes a node by the handle that an answer gives. -/
def tkS (X : Sx) (k : Nat) (aH : Nat) (nd : Int) : Sx := { X with G := X.G ++ [aH], H := X.H ++ [⟨k, aH, nd⟩] }
def tkO (X : Sx) (k : Nat) (nd aE : Int) (aH : Nat) (aY : Bool) : Option Sx := if gvB X aE aH aY = true then some (tkS X k aH nd) else none
def isField (X : Sx) (p i : Int) : Bool := decide (0 ≤ p ∧ p < X.F.length) && decide (0 ≤ i ∧ i < ((rowF X p).length : Int))
def fullF (C : Cg) (X : Sx) (k : Nat) : Bool := decide (C.d ≤ (heldF k X.H : Nat))
def mkS (X : Sx) (k : Nat) (cN : Int) (aH : Nat) : Sx := { tkS X k aH X.F.length with F := X.F ++ [List.replicate cN.toNat (-1)] }
def mkO (C : Cg) (X : Sx) (k : Nat) (cN aE : Int) (aH : Nat) (aY : Bool) : Option Sx :=
  if cN < 0 ∨ C.a < cN then refO X (sameA aE aH aY 1 0 false)
  else if fullF C X k = true then refO X (sameA aE aH aY 5 0 false)
  else if sameA aE aH aY 4 0 false = true then some X
  else if gvB X aE aH aY = true then some (mkS X k cN aH) else none
def ldO (C : Cg) (X : Sx) (k : Nat) (cN : Int) (cH : Nat) (aE : Int) (aH : Nat) (aY : Bool) : Option Sx :=
  if nodeF k cH X.H < 0 then refO X (sameA aE aH aY 2 0 false)
  else if isField X (nodeF k cH X.H) cN = false then refO X (sameA aE aH aY 3 0 false)
  else if fldF X (nodeF k cH X.H) cN = -1 then refO X (sameA aE aH aY 0 0 false)
  else if fullF C X k = true then refO X (sameA aE aH aY 5 0 false)
  else tkO X k (fldF X (nodeF k cH X.H) cN) aE aH aY
/-- A field is turned. -/
def setF (F : List (List Int)) (p i : Nat) (v : Int) : List (List Int) := F.set p ((F.getD p []).set i v)
def wrS (X : Sx) (p i v : Int) : Sx := { X with F := setF X.F p.toNat i.toNat v }
/-- What a call that writes names: the new, the expected, and whether both are held. -/
def nmF (X : Sx) (k : Nat) (kd : Int) (cX cY : Nat) : Int × Int × Bool :=
  if kd = 4 then (-1, -1, true)
  else if kd = 3 then (nodeF k cX X.H, -1, decide (0 ≤ nodeF k cX X.H))
  else (nodeF k cX X.H, nodeF k cY X.H, (decide (cX = 0) || decide (0 ≤ nodeF k cX X.H)) && (decide (cY = 0) || decide (0 ≤ nodeF k cY X.H)))
def wrO (X : Sx) (k : Nat) (kd cN : Int) (cH cX cY : Nat) (aE : Int) (aH : Nat) (aY : Bool) : Option Sx :=
  if nodeF k cH X.H < 0 ∨ (nmF X k kd cX cY).2.2 = false then refO X (sameA aE aH aY 2 0 false)
  else if isField X (nodeF k cH X.H) cN = false then refO X (sameA aE aH aY 3 0 false)
  else if kd = 5 ∧ fldF X (nodeF k cH X.H) cN ≠ (nmF X k kd cX cY).2.1 then refO X (sameA aE aH aY 0 0 false)
  else if sameA aE aH aY 4 0 false = true then some X
  else if sameA aE aH aY 0 0 (decide (kd = 5)) = true then some (wrS X (nodeF k cH X.H) cN (nmF X k kd cX cY).1) else none
def rlO (X : Sx) (k : Nat) (cH : Nat) (aE : Int) (aH : Nat) (aY : Bool) : Option Sx :=
  if nodeF k cH X.H < 0 then refO X (sameA aE aH aY 2 0 false)
  else if sameA aE aH aY 0 0 false = true then some { X with H := dropF k cH X.H } else none
def cpO (X : Sx) (k : Nat) (cH cX : Nat) (aE : Int) (aH : Nat) (aY : Bool) : Option Sx :=
  if nodeF k cH X.H < 0 ∨ nodeF k cX X.H < 0 then refO X (sameA aE aH aY 2 0 false)
  else refO X (sameA aE aH aY 0 0 (decide (nodeF k cH X.H = nodeF k cX X.H)))
def opS (X : Sx) (k : Nat) (aH : Nat) (l : List Int) : Sx := { X with G := X.G ++ [aH], W := X.W.set k aH, M := X.M.set k l }
def clO (X : Sx) (k : Nat) (aE : Int) (aH : Nat) (aY : Bool) : Option Sx :=
  if sameA aE aH aY 0 0 false = true then some { X with W := X.W.set k 0, M := X.M.set k [] } else none
def nxS (X : Sx) (k : Nat) (aH : Nat) : Sx := { tkS X k aH ((cmF X k).headD 0) with M := X.M.set k (cmF X k).tail }
def nxO (C : Cg) (X : Sx) (k : Nat) (kd : Int) (cH : Nat) (aE : Int) (aH : Nat) (aY : Bool) : Option Sx :=
  if wkF X k = 0 ∨ cH ≠ wkF X k then refO X (sameA aE aH aY 6 0 false)
  else if kd = 10 then clO X k aE aH aY
  else if cmF X k = [] then refO X (sameA aE aH aY 6 0 false)
  else if fullF C X k = true then refO X (sameA aE aH aY 5 0 false)
  else if gvB X aE aH aY = true then some (nxS X k aH) else none
theorem gvB_no {X : Sx} {aE : Int} {aH : Nat} {aY : Bool} (h : gvB X aE aH aY = true) : aH ∉ X.G := by
  intro hg
  unfold gvB at h
  rw [decide_eq_true hg] at h
  simp at h
theorem wfI {x : Int} (h0 : 0 ≤ x) (h1 : x < 9223372036854775808) : (Lit.int .i64 x).wf = true := by
  simp only [Lit.wf, Bool.and_eq_true, decide_eq_true_eq]
  exact ⟨show (-9223372036854775808 : Int) ≤ x by omega, show x ≤ 9223372036854775807 by omega⟩
set_option maxRecDepth 100000 in
set_option maxHeartbeats 2000000 in
theorem takes_any {w : World} {B : Nat} {L : Nat → Prop} {C : Cg} {n : Nat} {X : Sx} {m : Md} (h : MdOk w B L C n X m) (hL : ∀ i, L i → i < w.heap.size) {N : Nat} (iv : X.Inv N) (hn : n < 9223372036854775806) {k : Nat} (hk : k < C.c) {nd : Int} (h0 : 0 ≤ nd) (h63 : nd < 9223372036854775808) (aE : Int) {aH : Nat} (hH : aH < 18446744073709551616) (aY : Bool) :
    Calls Try.prog 68 #[.pointer (some ⟨B, 0, none⟩), .pointer (some ⟨m.Bc, 3 * k, none⟩), .int .i64 nd, .agg #[.int .i64 aE, .int .u64 (aH : Nat), .bool aY]] w fun r w' => r = .returned (.bool (tkO X k nd aE aH aY).isSome) ∧ MdOk w' B L C (n + 2) ((tkO X k nd aE aH aY).getD X) m ∧ Chg L w w' := by
  obtain ⟨oz, hoz⟩ : ∃ oz, tkO X k nd aE aH aY = oz := ⟨_, rfl⟩
  rw [hoz]
  replace hoz := hid1 hoz
  have hq := new_obj w (.cells #[.int .i64 aE, .int .u64 (aH : Nat), .bool aY] 39)
  have bel := alloc_below w (.cells #[.int .i64 aE, .int .u64 (aH : Nat), .bool aY] 39)
  replace h := hid1 (h.below bel)
  have h0' := hid1 h0
  have hwf := hid1 (wfI h0 h63)
  replace hk := hid1 hk
  clear h0 h63
  obtain ⟨o, ho⟩ : ∃ o, 3 * k = o := ⟨_, rfl⟩
  rw [ho]
  replace ho := hid1 ho
  go_enter Try.func68, Try.ntmps68
  go_upto_region 1 with fail
  generalize World.alloc _ _ = w1 at *
  generalize hbc : w.heap.size = ba at hq ⊢
  replace hbc := hid1 hbc
  have cG := gives_any h.out (by omega) aE hH aY
  obtain ⟨rb, hrb⟩ : ∃ rb, gvB X aE aH aY = rb := ⟨_, rfl⟩
  obtain ⟨X', hX⟩ : ∃ X', gvX X aE aH aY = X' := ⟨_, rfl⟩
  rw [hrb, hX] at cG
  replace cG := hid1 cG
  obtain ⟨y0, y1, y2⟩ := ans_cells hq
  have hba : ¬ L ba := fun q => by have := hL _ q; have := hbc.out; omega
  cases rb with
  | false =>
    have e1 : tkO X k nd aE aH aY = none := by unfold tkO; rw [if_neg (by rw [hrb]; decide)]
    have e2 : X' = X := by rw [← hX]; exact gvX_no hrb
    subst e2
    clear hrb hX
    go_wp2_with (go_at_call 72; with_reducible refine cG.out.mono ?_; rintro r w2 ⟨rfl, h2, c2⟩)
    go_ret
    exact ⟨by rw [← hoz.out, e1]; rfl, by rw [← hoz.out, e1]; exact h2.more (Nat.le_succ _), (Chg.of_below bel).trans (c2.widen bel)⟩
  | true =>
    have e1 : tkO X k nd aE aH aY = some (tkS X k aH nd) := by unfold tkO; rw [if_pos hrb]
    have e2 : X' = { X with G := X.G ++ [aH] } := by rw [← hX]; exact gvX_yes hrb
    have hfr := hid1 (iv.fresh (gvB_no hrb))
    subst e2
    clear hrb hX
    go_upto_region 3 with (go_at_call 72; with_reducible refine cG.out.mono ?_; rintro r w2 ⟨rfl, h2, c2⟩)
    clear cG y0 y1 y2
    have hq2 := (c2.block ba (lt_of_block hq) hba).trans hq
    have h3 := h2.below (Below.refl _ _).drew
    have ck := h3.cq hk.out
    obtain ⟨w4, hr, hd, gr⟩ := ck.hd.add (by omega) hH hfr.out h0'.out hwf.out
    have h4 := h3.holds (Nat.le_succ _) hk.out hd gr (add_others X.H)
    have ck4 := h4.cq hk.out
    have hq4 := (gr.block ba (lt_of_block hq2) (fun e => ne_map hq2 ck.hd.map (Option.some.inj e))).trans hq2
    have c4 : Chg L w1 w4 := c2.drew.grown gr (fun x hx => .inl (by obtain rfl := Option.some.inj hx; exact h.out.Lbk hk.out))
    have s3 := And.intro ck.y0 (ans_cells (w := w2.drew) hq2).2.1
    have s4 := And.intro ck4.y0 (ans_cells hq4).2.1
    rw [ho.out] at s3 s4
    clear gr hd ck ck4 h3 c2
    replace h4 := hid1 h4
    replace h2 := hid1 h2
    go_region_held (fun wr => wr.cell? ⟨m.Bc, o, none⟩ = some (.map (some (m.bk k))) ∧ wr.cell? ⟨ba, 1, none⟩ = some (.int .u64 (aH : Nat))) (first | with_reducible exact s3 | with_reducible exact s4) (fail)
    all_goals
      go_wp2
      go_ret
      exact ⟨by rw [← hoz.out, e1]; rfl, by rw [← hoz.out, e1]; exact h4.out, (Chg.of_below bel).trans (c4.widen bel)⟩
end Go.Proofs.Ytecppcakgfohbab
