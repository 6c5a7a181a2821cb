/- hist.Right. -/
import Derived.Test.YtecppcakgfohbabHK
import Derived.Deep.RegionHeld3
namespace Go.Proofs.Ytecppcakgfohbab
open Go.RowKit Go.Sort
set_option linter.unusedSimpArgs false
set_option linter.unusedVariables false

theorem setRow_other (w : World) (g : Nat) (cs : Array Value) (k : Nat) (h : k ≠ g) : (w.setRow g cs).heap[k]? = w.heap[k]? := by
  simp only [World.setRow, Array.getElem?_modify]
  rw [if_neg (by omega)]
theorem below_setRow {w wA : World} (b : Below w.heap.size w wA) (g : Nat) (hg : w.heap.size ≤ g) (cs : Array Value) : Below w.heap.size w (wA.setRow g cs) :=
  b.trans ⟨rfl, rfl, rfl, by simp [World.setRow], fun k hk => setRow_other _ _ _ _ (by omega)⟩
theorem is_bool (p : Prop) : ∃ b : Bool, (b = true ↔ p) := ⟨@decide p (Classical.propDecidable p), by simp⟩
set_option maxRecDepth 100000 in
set_option maxHeartbeats 16000000 in
theorem hright_any {w : World} {ad : Option Addr} {n : Nat} (cap : Nat) {E : List Ev} (hE : n = E.length) (hR : RdEv w ad E) (hn : n < 400000000) (c : Int) :
    Calls Try.prog 21 #[.slice ad n cap, .int .i64 c] w fun r w' => ∃ b : Bool, r = .returned (.bool b) ∧ (b = true ↔ RightP E c) ∧ Below w.heap.size w w' := by
  obtain ⟨rb, hrb⟩ := is_bool (RightP E c)
  refine Calls.mono (P := Try.prog) ?_ (fun (r : Ending) w' (h : r = .returned (.bool rb) ∧ Below w.heap.size w w') => ⟨rb, h.1, hrb, h.2⟩)
  replace hrb := hid1 hrb
  replace hE := hid1 hE
  have hR := hid1 hR
  go_enter Try.func21, Try.ntmps21
  go_wp2
  go_loopg [13] n (fun g1 vi wr => ∃ (i : Nat), vi = .int .i64 i ∧ i ≤ n ∧ n - i ≤ g1 ∧ Hid (Below w.heap.size w wr) ∧ Hid (∀ j e, j < i → E[j]? = some e → okE c e))
  case atStart => exact ⟨0, by go_num, Nat.zero_le _, by omega, hid1 (Below.refl _ _), hid1 (fun j e h => by omega)⟩
  case round =>
    obtain ⟨i, rfl, hi, hg1, bel, I⟩ := hrel
    by_cases hlt : i < n
    · have hltz : (i : Int) < (n : Int) := by omega
      obtain ⟨e, he⟩ : ∃ e, E[i]? = some e := ⟨_, List.getElem?_eq_getElem (by have := hE.out; omega)⟩
      obtain ⟨bE, oE, ha, hb, hc⟩ := hR.out.at he
      subst ha
      obtain ⟨c0, c1, c2, c3, c4, c5, c6, c7, c8, c9, c10, c11, c12, c13⟩ := hc _ bel.out
      clear hc
      have hq := new_obj wr (.cells #[.int .i64 e.cl, .int .i64 e.op, .int .i64 e.bg, .int .i64 e.pt, .int .i64 e.en, .bool e.bh, .int .i64 e.kd, .int .i64 e.nn, .int .u64 (e.hh : Nat), .int .u64 (e.hx : Nat), .int .u64 (e.hy : Nat), .int .i64 e.er, .int .u64 (e.ah : Nat), .bool e.ay] 43)
      have bA := alloc_below wr (.cells #[.int .i64 e.cl, .int .i64 e.op, .int .i64 e.bg, .int .i64 e.pt, .int .i64 e.en, .bool e.bh, .int .i64 e.kd, .int .i64 e.nn, .int .u64 (e.hh : Nat), .int .u64 (e.hx : Nat), .int .u64 (e.hy : Nat), .int .i64 e.er, .int .u64 (e.ah : Nat), .bool e.ay] 43)
      go_upto_region 4 with fail
      clear c0 c1 c2 c3 c4 c5 c6 c7 c8 c9 c10 c11 c12 c13
      generalize World.alloc _ _ = w2 at *
      generalize wr.heap.size = bq at hq ⊢
      have x0 : w2.cell? ⟨bq, 0, none⟩ = some (.int .i64 e.cl) := by simp [World.cell?, hq]
      have x2 : w2.cell? ⟨bq, 2, none⟩ = some (.int .i64 e.bg) := by simp [World.cell?, hq]
      have x3 : w2.cell? ⟨bq, 3, none⟩ = some (.int .i64 e.pt) := by simp [World.cell?, hq]
      have x4 : w2.cell? ⟨bq, 4, none⟩ = some (.int .i64 e.en) := by simp [World.cell?, hq]
      clear hq
      replace bel := hid1 (seq_below bel.out bA)
      clear bA
      replace he := hid1 he
      by_cases h1 : e.cl < 0
      · have hf : ¬ okE c e := fun h => by have := h.1; omega
        have d1 : decide (e.cl < 0) = true := decide_eq_true h1
        have hr : rb = false := by
          cases hb : rb with
          | false => rfl
          | true => exact absurd ((hrb.out.1 hb).1 i e he.out) hf
        subst hr
        clear hf
        go_wp2
        go_ret
        exact ⟨rfl, bel.out⟩
      · have d1 : decide (e.cl < 0) = false := decide_eq_false h1
        by_cases h2 : c ≤ e.cl
        · have hf : ¬ okE c e := fun h => by have := h.2.1; omega
          have d2 : decide (c ≤ e.cl) = true := decide_eq_true h2
          have hr : rb = false := by
            cases hb : rb with
            | false => rfl
            | true => exact absurd ((hrb.out.1 hb).1 i e he.out) hf
          subst hr
          clear hf
          go_wp2
          go_ret
          exact ⟨rfl, bel.out⟩
        · have d2 : decide (c ≤ e.cl) = false := decide_eq_false h2
          by_cases h3 : e.pt < e.bg
          · have hf : ¬ okE c e := fun h => by have := h.2.2.1; omega
            have d3 : decide (e.pt < e.bg) = true := decide_eq_true h3
            have hr : rb = false := by
              cases hb : rb with
              | false => rfl
              | true => exact absurd ((hrb.out.1 hb).1 i e he.out) hf
            subst hr
            clear hf
            go_wp2
            go_ret
            exact ⟨rfl, bel.out⟩
          · have d3 : decide (e.pt < e.bg) = false := decide_eq_false h3
            by_cases h4 : e.en < e.pt
            · have hf : ¬ okE c e := fun h => by have := h.2.2.2; omega
              have d4 : decide (e.en < e.pt) = true := decide_eq_true h4
              have hr : rb = false := by
                cases hb : rb with
                | false => rfl
                | true => exact absurd ((hrb.out.1 hb).1 i e he.out) hf
              subst hr
              clear hf
              go_wp2
              go_ret
              exact ⟨rfl, bel.out⟩
            · have d4 : decide (e.en < e.pt) = false := decide_eq_false h4
              have hok : okE c e := ⟨by omega, by omega, by omega, by omega⟩
              have I2 := hid1 (fun (j : Nat) (f : Ev) (hj : j < i + 1) (hf : E[j]? = some f) => (by
                by_cases q : j = i
                · subst q; rw [he.out] at hf; obtain rfl := Option.some.inj hf; exact hok
                · exact I.out j f (by omega) hf : okE c f))
              replace hok := hid1 hok
              go_wp2
              go_roundg (n - (i + 1))
              case measure => omega
              case rel => exact ⟨i + 1, by go_num, by omega, Nat.le_refl _, bel, I2⟩
    · obtain rfl : i = n := by omega
      have hltz : ¬ (i : Int) < (i : Int) := by omega
      have OK := hid1 (fun (j : Nat) (e : Ev) (h : E[j]? = some e) => I.out j e (by have := (List.getElem?_eq_some_iff.1 h).1; have := hE.out; omega) h)
      have cs := hid1 (sortO_any cap hE.out (hR.out.below bel.out) hn)
      have hn1 := hid1 hE.out
      go_wp2_with (go_at_call 34; refine cs.out.mono ?_; rintro e w' ⟨a, l, rfl, O, Z, b⟩)
      replace O := hid1 O
      replace Z := hid1 Z
      replace bel := hid1 (seq_below bel.out b)
      clear cs b I
      go_loopg [8] i (fun g1 vi wr => ∃ (k : Nat), vi = .int .i64 k ∧ 1 ≤ k ∧ k ≤ i + 1 ∧ i + 1 - k ≤ g1 ∧ Hid (Below w'.heap.size w' wr) ∧ Hid (∀ j a b e f, j + 1 < k → l[j]? = some a → l[j + 1]? = some b → E[a]? = some e → E[b]? = some f → nxtE e f))
      case atStart => exact ⟨1, by go_num, by omega, by omega, by omega, hid1 (Below.refl _ _), hid1 (fun j a b e f h => by omega)⟩
      case round =>
        obtain ⟨k, rfl, hk1, hk2, hg2, b2, I⟩ := hrel
        by_cases hlt : k < i
        · have hltz : (k : Int) < (i : Int) := by omega
          obtain ⟨kp, hkp⟩ : ∃ q, q + 1 = k := ⟨k - 1, by omega⟩
          have rk : IntKind.i64.wrap ((k : Int) - 1) = (kp : Int) := by rw [IntKind.wrap_i64]; omega
          have hkn : (0 : Int) ≤ (kp : Int) := by omega
          have hkz : (kp : Int) < (i : Int) := by omega
          have hln := O.out.len
          obtain ⟨x, hx⟩ : ∃ x, l[kp]? = some x := ⟨_, List.getElem?_eq_getElem (by have := hE.out; omega)⟩
          obtain ⟨y, hy⟩ : ∃ x, l[k]? = some x := ⟨_, List.getElem?_eq_getElem (by have := hE.out; omega)⟩
          have hxi := O.out.sm hx
          have hyi := O.out.sm hy
          obtain ⟨e, he⟩ : ∃ e, E[x]? = some e := ⟨_, List.getElem?_eq_getElem (by have := hE.out; omega)⟩
          obtain ⟨f, hf⟩ : ∃ e, E[y]? = some e := ⟨_, List.getElem?_eq_getElem (by have := hE.out; omega)⟩
          have hxz : (x : Int) < (i : Int) := by omega
          have hyz : (y : Int) < (i : Int) := by omega
          obtain ⟨bE, oE, ha, hb, hc⟩ := hR.out.at he
          subst ha
          obtain ⟨bE', oE', ha, hb', hd⟩ := hR.out.at hf
          simp only [Option.some.injEq, Addr.mk.injEq] at ha
          obtain ⟨rfl, rfl, -⟩ := ha
          obtain ⟨bZ, oZ, ha, hz1, hz2⟩ := (Z.out.below b2.out) kp (x : Int) (by rw [List.getElem?_map, hx]; rfl)
          subst ha
          obtain ⟨bZ', oZ', ha, hz3, hz4⟩ := (Z.out.below b2.out) k (y : Int) (by rw [List.getElem?_map, hy]; rfl)
          simp only [Option.some.injEq, Addr.mk.injEq] at ha
          obtain ⟨rfl, rfl, -⟩ := ha
          have BW := Below.refl wr.heap.size wr
          have bb := seq_below bel.out b2.out
          have SS := hid1 (fun (w' : World) (b : Below wr.heap.size wr w') => And.intro ((b.cell (p := ⟨bZ, oZ + kp, none⟩) hz1).trans hz2) (And.intro ((b.cell (p := ⟨bZ, oZ + k, none⟩) hz1).trans hz4) (And.intro (hc _ (seq_below bb b)) (hd _ (seq_below bb b)))))
          have ix := hid1 (And.intro (And.intro hx hy) (And.intro he hf))
          clear hx hy he hf hc hd hz1 hz2 hz3 hz4 hb hb' bb hxi hyi hln
          replace hkp := hid1 hkp
          go_upto_region 11 with fail
          refine wp_region_held_drew (S := fun w' => Below wr.heap.size wr w') (by kernel_rfl) BW.drew (fun hS1 => ?_)
          clear BW
          refine wpAnyH_take (i := 0) (oi := { dst := some 49, op := Go.Op.move (Go.Operand.tmp 0), type := 24, pos := "hist.go:26", after := #[], guard := none }) (v := .slice (some ⟨bE, oE, none⟩) i cap) rfl (by kernel_rfl) (by kernel_rfl) (by kernel_rfl) (fun _ _ _ h => h) (Or.inl ⟨by rfl, fun w hSw => by (try dsimp only at hSw); go_simp⟩) hS1 ?_
          simp only [Act.put, List.setIfInBounds_toArray, List.set_cons_zero, List.set_cons_succ]
          refine wpAnyH_take (i := 1) (oi := { dst := some 50, op := Go.Op.move (Go.Operand.tmp 7), type := 25, pos := "hist.go:26", after := #[], guard := none }) (v := .slice (some ⟨bZ, oZ, none⟩) i i) rfl (by kernel_rfl) (by kernel_rfl) (by kernel_rfl) (fun _ _ _ h => h) (Or.inl ⟨by rfl, fun w hSw => by (try dsimp only at hSw); go_simp⟩) hS1 ?_
          simp only [Act.put, List.setIfInBounds_toArray, List.set_cons_zero, List.set_cons_succ]
          refine wpAnyH_take (i := 2) (oi := { dst := some 51, op := Go.Op.move (Go.Operand.tmp 8), type := 3, pos := "hist.go:26", after := #[], guard := none }) (v := .int .i64 (k : Int)) rfl (by kernel_rfl) (by kernel_rfl) (by kernel_rfl) (fun _ _ _ h => h) (Or.inl ⟨by rfl, fun w hSw => by (try dsimp only at hSw); go_simp⟩) hS1 ?_
          simp only [Act.put, List.setIfInBounds_toArray, List.set_cons_zero, List.set_cons_succ]
          refine wpAnyH_take (i := 3) (oi := { dst := some 52, op := Go.Op.binOp Go.BinOp.sub 3 (Go.Operand.tmp 51) (Go.Operand.const (Go.Value.int Go.IntKind.i64 1)) 3, type := 3, pos := "hist.go:26", after := #[{ on := 2, ground := Go.Ground.data }], guard := none }) (v := .int .i64 (kp : Int)) rfl (by kernel_rfl) (by kernel_rfl) (by kernel_rfl) (fun _ _ _ h => h) (Or.inl ⟨by rfl, fun w hSw => by (try dsimp only at hSw); go_simp⟩) hS1 ?_
          simp only [Act.put, List.setIfInBounds_toArray, List.set_cons_zero, List.set_cons_succ]
          refine wpAnyH_take (i := 4) (oi := { dst := some 53, op := Go.Op.indexAddr 25 (Go.Operand.tmp 50) (Go.Operand.tmp 52), type := 0, pos := "hist.go:26", after := #[{ on := 1, ground := Go.Ground.data }, { on := 3, ground := Go.Ground.data }], guard := none }) (v := .pointer (some ⟨bZ, oZ + kp, none⟩)) rfl (by kernel_rfl) (by kernel_rfl) (by kernel_rfl) (fun _ _ _ h => h) (Or.inl ⟨by rfl, fun w hSw => by (try dsimp only at hSw); go_simp⟩) hS1 ?_
          simp only [Act.put, List.setIfInBounds_toArray, List.set_cons_zero, List.set_cons_succ]
          refine wpAnyH_take (i := 5) (oi := { dst := some 54, op := Go.Op.load 3 (Go.Operand.tmp 53), type := 3, pos := "hist.go:26", after := #[{ on := 4, ground := Go.Ground.data }], guard := none }) (v := .int .i64 (x : Int)) rfl (by kernel_rfl) (by kernel_rfl) (by kernel_rfl) (fun _ _ _ h => h) (Or.inl ⟨by rfl, fun w hSw => by (try dsimp only at hSw); obtain ⟨j1, j2, ⟨l0, l1, l2, l3, l4, l5, l6, l7, l8, l9, l10, l11, l12, l13⟩, m0, m1, m2, m3, m4, m5, m6, m7, m8, m9, m10, m11, m12, m13⟩ := SS.out w hSw; go_simp⟩) hS1 ?_
          simp only [Act.put, List.setIfInBounds_toArray, List.set_cons_zero, List.set_cons_succ]
          refine wpAnyH_take (i := 6) (oi := { dst := some 55, op := Go.Op.indexAddr 24 (Go.Operand.tmp 49) (Go.Operand.tmp 54), type := 0, pos := "hist.go:26", after := #[{ on := 0, ground := Go.Ground.data }, { on := 5, ground := Go.Ground.data }], guard := none }) (v := .pointer (some ⟨bE, oE + x * 14, none⟩)) rfl (by kernel_rfl) (by kernel_rfl) (by kernel_rfl) (fun _ _ _ h => h) (Or.inl ⟨by rfl, fun w hSw => by (try dsimp only at hSw); go_simp⟩) hS1 ?_
          simp only [Act.put, List.setIfInBounds_toArray, List.set_cons_zero, List.set_cons_succ]
          refine wpAnyH_take (i := 7) (oi := { dst := some 56, op := Go.Op.load 43 (Go.Operand.tmp 55), type := 43, pos := "hist.go:26", after := #[{ on := 6, ground := Go.Ground.data }], guard := none }) (v := .agg #[.int .i64 e.cl, .int .i64 e.op, .int .i64 e.bg, .int .i64 e.pt, .int .i64 e.en, .bool e.bh, .int .i64 e.kd, .int .i64 e.nn, .int .u64 (e.hh : Nat), .int .u64 (e.hx : Nat), .int .u64 (e.hy : Nat), .int .i64 e.er, .int .u64 (e.ah : Nat), .bool e.ay]) rfl (by kernel_rfl) (by kernel_rfl) (by kernel_rfl) (fun _ _ _ h => h) (Or.inl ⟨by rfl, fun w hSw => by (try dsimp only at hSw); obtain ⟨j1, j2, ⟨l0, l1, l2, l3, l4, l5, l6, l7, l8, l9, l10, l11, l12, l13⟩, m0, m1, m2, m3, m4, m5, m6, m7, m8, m9, m10, m11, m12, m13⟩ := SS.out w hSw; go_simp⟩) hS1 ?_
          simp only [Act.put, List.setIfInBounds_toArray, List.set_cons_zero, List.set_cons_succ]
          refine wpAnyH_take (i := 8) (oi := { dst := some 57, op := Go.Op.move (Go.Operand.tmp 0), type := 24, pos := "hist.go:26", after := #[{ on := 17, ground := Go.Ground.gcOnly Go.Departure.lateStores }], guard := none }) (v := .slice (some ⟨bE, oE, none⟩) i cap) rfl (by kernel_rfl) (by kernel_rfl) (by kernel_rfl) (fun _ _ _ h => h) (Or.inl ⟨by rfl, fun w hSw => by (try dsimp only at hSw); go_simp⟩) hS1 ?_
          simp only [Act.put, List.setIfInBounds_toArray, List.set_cons_zero, List.set_cons_succ]
          refine wpAnyH_take (i := 9) (oi := { dst := some 58, op := Go.Op.move (Go.Operand.tmp 7), type := 25, pos := "hist.go:26", after := #[{ on := 17, ground := Go.Ground.gcOnly Go.Departure.lateStores }], guard := none }) (v := .slice (some ⟨bZ, oZ, none⟩) i i) rfl (by kernel_rfl) (by kernel_rfl) (by kernel_rfl) (fun _ _ _ h => h) (Or.inl ⟨by rfl, fun w hSw => by (try dsimp only at hSw); go_simp⟩) hS1 ?_
          simp only [Act.put, List.setIfInBounds_toArray, List.set_cons_zero, List.set_cons_succ]
          refine wpAnyH_take (i := 10) (oi := { dst := some 59, op := Go.Op.move (Go.Operand.tmp 8), type := 3, pos := "hist.go:26", after := #[{ on := 17, ground := Go.Ground.gcOnly Go.Departure.lateStores }], guard := none }) (v := .int .i64 (k : Int)) rfl (by kernel_rfl) (by kernel_rfl) (by kernel_rfl) (fun _ _ _ h => h) (Or.inl ⟨by rfl, fun w hSw => by (try dsimp only at hSw); go_simp⟩) hS1 ?_
          simp only [Act.put, List.setIfInBounds_toArray, List.set_cons_zero, List.set_cons_succ]
          refine wpAnyH_take (i := 11) (oi := { dst := some 60, op := Go.Op.indexAddr 25 (Go.Operand.tmp 58) (Go.Operand.tmp 59), type := 0, pos := "hist.go:26", after := #[{ on := 9, ground := Go.Ground.data }, { on := 10, ground := Go.Ground.data }, { on := 17, ground := Go.Ground.gcOnly Go.Departure.lateStores }], guard := none }) (v := .pointer (some ⟨bZ, oZ + k, none⟩)) rfl (by kernel_rfl) (by kernel_rfl) (by kernel_rfl) (fun _ _ _ h => h) (Or.inl ⟨by rfl, fun w hSw => by (try dsimp only at hSw); go_simp⟩) hS1 ?_
          simp only [Act.put, List.setIfInBounds_toArray, List.set_cons_zero, List.set_cons_succ]
          refine wpAnyH_take (i := 12) (oi := { dst := some 61, op := Go.Op.load 3 (Go.Operand.tmp 60), type := 3, pos := "hist.go:26", after := #[{ on := 11, ground := Go.Ground.data }, { on := 17, ground := Go.Ground.gcOnly Go.Departure.lateStores }], guard := none }) (v := .int .i64 (y : Int)) rfl (by kernel_rfl) (by kernel_rfl) (by kernel_rfl) (fun _ _ _ h => h) (Or.inl ⟨by rfl, fun w hSw => by (try dsimp only at hSw); obtain ⟨j1, j2, ⟨l0, l1, l2, l3, l4, l5, l6, l7, l8, l9, l10, l11, l12, l13⟩, m0, m1, m2, m3, m4, m5, m6, m7, m8, m9, m10, m11, m12, m13⟩ := SS.out w hSw; go_simp⟩) hS1 ?_
          simp only [Act.put, List.setIfInBounds_toArray, List.set_cons_zero, List.set_cons_succ]
          refine wpAnyH_take (i := 13) (oi := { dst := some 62, op := Go.Op.indexAddr 24 (Go.Operand.tmp 57) (Go.Operand.tmp 61), type := 0, pos := "hist.go:26", after := #[{ on := 8, ground := Go.Ground.data }, { on := 12, ground := Go.Ground.data }, { on := 17, ground := Go.Ground.gcOnly Go.Departure.lateStores }], guard := none }) (v := .pointer (some ⟨bE, oE + y * 14, none⟩)) rfl (by kernel_rfl) (by kernel_rfl) (by kernel_rfl) (fun _ _ _ h => h) (Or.inl ⟨by rfl, fun w hSw => by (try dsimp only at hSw); go_simp⟩) hS1 ?_
          simp only [Act.put, List.setIfInBounds_toArray, List.set_cons_zero, List.set_cons_succ]
          refine wpAnyH_take (i := 14) (oi := { dst := some 63, op := Go.Op.load 43 (Go.Operand.tmp 62), type := 43, pos := "hist.go:26", after := #[{ on := 13, ground := Go.Ground.data }, { on := 17, ground := Go.Ground.gcOnly Go.Departure.lateStores }], guard := none }) (v := .agg #[.int .i64 f.cl, .int .i64 f.op, .int .i64 f.bg, .int .i64 f.pt, .int .i64 f.en, .bool f.bh, .int .i64 f.kd, .int .i64 f.nn, .int .u64 (f.hh : Nat), .int .u64 (f.hx : Nat), .int .u64 (f.hy : Nat), .int .i64 f.er, .int .u64 (f.ah : Nat), .bool f.ay]) rfl (by kernel_rfl) (by kernel_rfl) (by kernel_rfl) (fun _ _ _ h => h) (Or.inl ⟨by rfl, fun w hSw => by (try dsimp only at hSw); obtain ⟨j1, j2, ⟨l0, l1, l2, l3, l4, l5, l6, l7, l8, l9, l10, l11, l12, l13⟩, m0, m1, m2, m3, m4, m5, m6, m7, m8, m9, m10, m11, m12, m13⟩ := SS.out w hSw; go_simp⟩) hS1 ?_
          simp only [Act.put, List.setIfInBounds_toArray, List.set_cons_zero, List.set_cons_succ]
          refine wpAnyH_ready (rs := [15, 16]) (by kernel_rfl) (by simp) (AllReadyH.cons (o := { dst := some 9, op := Go.Op.alloc 43, type := 0, pos := "hist.go:26", after := #[], guard := none }) rfl (fun K hK => ?_) (AllReadyH.cons (o := { dst := some 10, op := Go.Op.alloc 43, type := 0, pos := "hist.go:26", after := #[], guard := none }) rfl (fun K hK => ?_) AllReadyH.nil))
          · go_simp
            have hq1 := new_obj wr (.cells #[.int .i64 0, .int .i64 0, .int .i64 0, .int .i64 0, .int .i64 0, .bool false, .int .i64 0, .int .i64 0, .int .u64 0, .int .u64 0, .int .u64 0, .int .i64 0, .int .u64 0, .bool false] 43)
            have z1 : (wr.alloc (.cells #[.int .i64 0, .int .i64 0, .int .i64 0, .int .i64 0, .int .i64 0, .bool false, .int .i64 0, .int .i64 0, .int .u64 0, .int .u64 0, .int .u64 0, .int .i64 0, .int .u64 0, .bool false] 43)).heap.size = wr.heap.size + 1 := by simp
            have hS2 := alloc_below wr (.cells #[.int .i64 0, .int .i64 0, .int .i64 0, .int .i64 0, .int .i64 0, .bool false, .int .i64 0, .int .i64 0, .int .u64 0, .int .u64 0, .int .u64 0, .int .i64 0, .int .u64 0, .bool false] 43)
            refine hK.out _ _ hS2.drew (fun _ => ?_)
            (try simp only [Act.put, List.setIfInBounds_toArray, List.set_cons_zero, List.set_cons_succ])
            clear hK K
            refine wpAnyH_ready (rs := [16]) (by kernel_rfl) (by simp) (AllReadyH.cons (o := { dst := some 10, op := Go.Op.alloc 43, type := 0, pos := "hist.go:26", after := #[], guard := none }) rfl (fun K hK => ?_) AllReadyH.nil)
            go_simp
            have hq2 := new_obj (wr.alloc (.cells #[.int .i64 0, .int .i64 0, .int .i64 0, .int .i64 0, .int .i64 0, .bool false, .int .i64 0, .int .i64 0, .int .u64 0, .int .u64 0, .int .u64 0, .int .i64 0, .int .u64 0, .bool false] 43)) (.cells #[.int .i64 0, .int .i64 0, .int .i64 0, .int .i64 0, .int .i64 0, .bool false, .int .i64 0, .int .i64 0, .int .u64 0, .int .u64 0, .int .u64 0, .int .i64 0, .int .u64 0, .bool false] 43)
            have hS3 := (seq_below hS2 (alloc_below _ (.cells #[.int .i64 0, .int .i64 0, .int .i64 0, .int .i64 0, .int .i64 0, .bool false, .int .i64 0, .int .i64 0, .int .u64 0, .int .u64 0, .int .u64 0, .int .i64 0, .int .u64 0, .bool false] 43))).drew
            rw [z1] at hq2
            have hq1b := (Below.heap_alloc (wr.alloc (.cells #[.int .i64 0, .int .i64 0, .int .i64 0, .int .i64 0, .int .i64 0, .bool false, .int .i64 0, .int .i64 0, .int .u64 0, .int .u64 0, .int .u64 0, .int .i64 0, .int .u64 0, .bool false] 43)) (.cells #[.int .i64 0, .int .i64 0, .int .i64 0, .int .i64 0, .int .i64 0, .bool false, .int .i64 0, .int .i64 0, .int .u64 0, .int .u64 0, .int .u64 0, .int .i64 0, .int .u64 0, .bool false] 43) wr.heap.size (by rw [z1]; omega)).trans hq1
            replace hq1b : ((wr.alloc (.cells #[.int .i64 0, .int .i64 0, .int .i64 0, .int .i64 0, .int .i64 0, .bool false, .int .i64 0, .int .i64 0, .int .u64 0, .int .u64 0, .int .u64 0, .int .i64 0, .int .u64 0, .bool false] 43)).alloc (.cells #[.int .i64 0, .int .i64 0, .int .i64 0, .int .i64 0, .int .i64 0, .bool false, .int .i64 0, .int .i64 0, .int .u64 0, .int .u64 0, .int .u64 0, .int .i64 0, .int .u64 0, .bool false] 43)).drew.heap[wr.heap.size]? = _ := hq1b
            replace hq2 : ((wr.alloc (.cells #[.int .i64 0, .int .i64 0, .int .i64 0, .int .i64 0, .int .i64 0, .bool false, .int .i64 0, .int .i64 0, .int .u64 0, .int .u64 0, .int .u64 0, .int .i64 0, .int .u64 0, .bool false] 43)).alloc (.cells #[.int .i64 0, .int .i64 0, .int .i64 0, .int .i64 0, .int .i64 0, .bool false, .int .i64 0, .int .i64 0, .int .u64 0, .int .u64 0, .int .u64 0, .int .i64 0, .int .u64 0, .bool false] 43)).drew.heap[wr.heap.size + 1]? = _ := hq2
            clear hq1 z1 hS2
            refine hK.out _ _ hS3 (fun _ => ?_)
            (try simp only [Act.put, List.setIfInBounds_toArray, List.set_cons_zero, List.set_cons_succ])
            clear hK K
            generalize World.drew _ = wA at hq2 hq1b hS3 ⊢
            obtain ⟨g1, hgz⟩ : ∃ g1, wr.heap.size = g1 := ⟨_, rfl⟩
            have hq1c : wA.heap[g1]? = some (.cells #[.int .i64 0, .int .i64 0, .int .i64 0, .int .i64 0, .int .i64 0, .bool false, .int .i64 0, .int .i64 0, .int .u64 0, .int .u64 0, .int .u64 0, .int .i64 0, .int .u64 0, .bool false] 43 (0, 0)) := by rw [← hgz]; exact hq1b
            have hq2c : wA.heap[g1 + 1]? = some (.cells #[.int .i64 0, .int .i64 0, .int .i64 0, .int .i64 0, .int .i64 0, .bool false, .int .i64 0, .int .i64 0, .int .u64 0, .int .u64 0, .int .u64 0, .int .i64 0, .int .u64 0, .bool false] 43 (0, 0)) := by rw [← hgz]; exact hq2
            clear hq1b hq2
            rw [hgz]
            replace hgz := hid1 hgz
            refine wpAnyH_ready (rs := [17]) (by kernel_rfl) (by simp) (AllReadyH.cons (o := { dst := none, op := Go.Op.store 43 (Go.Operand.tmp 9) (Go.Operand.tmp 56), type := 0, pos := "hist.go:26", after := #[{ on := 15, ground := Go.Ground.data }, { on := 7, ground := Go.Ground.data }, { on := 0, ground := Go.Ground.phase }, { on := 1, ground := Go.Ground.phase }, { on := 2, ground := Go.Ground.phase }, { on := 3, ground := Go.Ground.phase }, { on := 4, ground := Go.Ground.phase }, { on := 5, ground := Go.Ground.phase }, { on := 6, ground := Go.Ground.phase }, { on := 7, ground := Go.Ground.phase }, { on := 8, ground := Go.Ground.textOnly Go.Departure.lateStores }, { on := 9, ground := Go.Ground.textOnly Go.Departure.lateStores }, { on := 10, ground := Go.Ground.textOnly Go.Departure.lateStores }, { on := 11, ground := Go.Ground.textOnly Go.Departure.lateStores }, { on := 12, ground := Go.Ground.textOnly Go.Departure.lateStores }, { on := 13, ground := Go.Ground.textOnly Go.Departure.lateStores }, { on := 14, ground := Go.Ground.textOnly Go.Departure.lateStores }, { on := 15, ground := Go.Ground.phase }, { on := 16, ground := Go.Ground.phase }], guard := none }) rfl (fun K hK => ?_) AllReadyH.nil)
            refine wp_store_row 43 (.tmp 9) (.tmp 56) rfl (g1) #[.int .i64 e.cl, .int .i64 e.op, .int .i64 e.bg, .int .i64 e.pt, .int .i64 e.en, .bool e.bh, .int .i64 e.kd, .int .i64 e.nn, .int .u64 (e.hh : Nat), .int .u64 (e.hx : Nat), .int .u64 (e.hy : Nat), .int .i64 e.er, .int .u64 (e.ah : Nat), .bool e.ay] rfl rfl 43 #[.int .i64 0, .int .i64 0, .int .i64 0, .int .i64 0, .int .i64 0, .bool false, .int .i64 0, .int .i64 0, .int .u64 0, .int .u64 0, .int .u64 0, .int .i64 0, .int .u64 0, .bool false] hq1c (by show _ = some 14; kernel_rfl) rfl (by kernel_rfl) ?_
            have hS4 := below_setRow hS3 (g1) (by have := hgz.out; omega) #[.int .i64 e.cl, .int .i64 e.op, .int .i64 e.bg, .int .i64 e.pt, .int .i64 e.en, .bool e.bh, .int .i64 e.kd, .int .i64 e.nn, .int .u64 (e.hh : Nat), .int .u64 (e.hx : Nat), .int .u64 (e.hy : Nat), .int .i64 e.er, .int .u64 (e.ah : Nat), .bool e.ay]
            have hqE := setRow_heap wA (g1) _ #[.int .i64 e.cl, .int .i64 e.op, .int .i64 e.bg, .int .i64 e.pt, .int .i64 e.en, .bool e.bh, .int .i64 e.kd, .int .i64 e.nn, .int .u64 (e.hh : Nat), .int .u64 (e.hx : Nat), .int .u64 (e.hy : Nat), .int .i64 e.er, .int .u64 (e.ah : Nat), .bool e.ay] _ _ hq1c
            have hqF := (setRow_other wA (g1) #[.int .i64 e.cl, .int .i64 e.op, .int .i64 e.bg, .int .i64 e.pt, .int .i64 e.en, .bool e.bh, .int .i64 e.kd, .int .i64 e.nn, .int .u64 (e.hh : Nat), .int .u64 (e.hx : Nat), .int .u64 (e.hy : Nat), .int .i64 e.er, .int .u64 (e.ah : Nat), .bool e.ay] (g1 + 1) (by omega)).trans hq2c
            refine hK.out _ _ (by have q := hS4; rw [hgz.out] at q; exact q) (fun _ => ?_)
            (try simp only [Act.put, List.setIfInBounds_toArray, List.set_cons_zero, List.set_cons_succ])
            clear hK K hq1c hq2c hS3
            generalize World.setRow _ _ _ = wB at hqE hqF hS4 ⊢
            refine wpAnyH_ready (rs := [18]) (by kernel_rfl) (by simp) (AllReadyH.cons (o := { dst := none, op := Go.Op.store 43 (Go.Operand.tmp 10) (Go.Operand.tmp 63), type := 0, pos := "hist.go:26", after := #[{ on := 16, ground := Go.Ground.data }, { on := 14, ground := Go.Ground.data }, { on := 17, ground := Go.Ground.chain }, { on := 0, ground := Go.Ground.phase }, { on := 1, ground := Go.Ground.phase }, { on := 2, ground := Go.Ground.phase }, { on := 3, ground := Go.Ground.phase }, { on := 4, ground := Go.Ground.phase }, { on := 5, ground := Go.Ground.phase }, { on := 6, ground := Go.Ground.phase }, { on := 7, ground := Go.Ground.phase }, { on := 8, ground := Go.Ground.phase }, { on := 9, ground := Go.Ground.phase }, { on := 10, ground := Go.Ground.phase }, { on := 11, ground := Go.Ground.phase }, { on := 12, ground := Go.Ground.phase }, { on := 13, ground := Go.Ground.phase }, { on := 14, ground := Go.Ground.phase }, { on := 15, ground := Go.Ground.phase }, { on := 16, ground := Go.Ground.phase }, { on := 17, ground := Go.Ground.phase }], guard := none }) rfl (fun K hK => ?_) AllReadyH.nil)
            refine wp_store_row 43 (.tmp 10) (.tmp 63) rfl (g1 + 1) #[.int .i64 f.cl, .int .i64 f.op, .int .i64 f.bg, .int .i64 f.pt, .int .i64 f.en, .bool f.bh, .int .i64 f.kd, .int .i64 f.nn, .int .u64 (f.hh : Nat), .int .u64 (f.hx : Nat), .int .u64 (f.hy : Nat), .int .i64 f.er, .int .u64 (f.ah : Nat), .bool f.ay] rfl rfl 43 #[.int .i64 0, .int .i64 0, .int .i64 0, .int .i64 0, .int .i64 0, .bool false, .int .i64 0, .int .i64 0, .int .u64 0, .int .u64 0, .int .u64 0, .int .i64 0, .int .u64 0, .bool false] hqF (by show _ = some 14; kernel_rfl) rfl (by kernel_rfl) ?_
            have b6 := below_setRow hS4 (g1 + 1) (by have := hgz.out; omega) #[.int .i64 f.cl, .int .i64 f.op, .int .i64 f.bg, .int .i64 f.pt, .int .i64 f.en, .bool f.bh, .int .i64 f.kd, .int .i64 f.nn, .int .u64 (f.hh : Nat), .int .u64 (f.hx : Nat), .int .u64 (f.hy : Nat), .int .i64 f.er, .int .u64 (f.ah : Nat), .bool f.ay]
            replace hqE := (setRow_other wB (g1 + 1) #[.int .i64 f.cl, .int .i64 f.op, .int .i64 f.bg, .int .i64 f.pt, .int .i64 f.en, .bool f.bh, .int .i64 f.kd, .int .i64 f.nn, .int .u64 (f.hh : Nat), .int .u64 (f.hx : Nat), .int .u64 (f.hy : Nat), .int .i64 f.er, .int .u64 (f.ah : Nat), .bool f.ay] (g1) (by omega)).trans hqE
            replace hqF := setRow_heap wB (g1 + 1) _ #[.int .i64 f.cl, .int .i64 f.op, .int .i64 f.bg, .int .i64 f.pt, .int .i64 f.en, .bool f.bh, .int .i64 f.kd, .int .i64 f.nn, .int .u64 (f.hh : Nat), .int .u64 (f.hx : Nat), .int .u64 (f.hy : Nat), .int .i64 f.er, .int .u64 (f.ah : Nat), .bool f.ay] _ _ hqF
            refine hK.out _ _ (by have q := b6; rw [hgz.out] at q; exact q) (fun _ => ?_)
            (try simp only [Act.put, List.setIfInBounds_toArray, List.set_cons_zero, List.set_cons_succ])
            clear hK K hS4
            generalize World.setRow _ _ _ = w6 at hqE hqF b6 ⊢
            replace b6 := hid1 b6
            obtain ⟨gE, hgE⟩ : ∃ gE, g1 = gE := ⟨_, rfl⟩
            obtain ⟨gF, hgF⟩ : ∃ gF, g1 + 1 = gF := ⟨_, rfl⟩
            rw [hgE] at hqE
            rw [hgF] at hqF
            rw [hgF]
            rw [hgE]
            refine wpAnyH_done (by kernel_rfl) ?_ _
            clear hgE hgF hS1 hgz
            obtain ⟨y0, y1, y2, y3, y4, y5, y6, y7, y8, y9, y10, y11, y12, y13⟩ : w6.cell? ⟨gE, 0, none⟩ = some (.int .i64 e.cl) ∧ w6.cell? ⟨gE, 1, none⟩ = some (.int .i64 e.op) ∧ w6.cell? ⟨gE, 2, none⟩ = some (.int .i64 e.bg) ∧ w6.cell? ⟨gE, 3, none⟩ = some (.int .i64 e.pt) ∧ w6.cell? ⟨gE, 4, none⟩ = some (.int .i64 e.en) ∧ w6.cell? ⟨gE, 5, none⟩ = some (.bool e.bh) ∧ w6.cell? ⟨gE, 6, none⟩ = some (.int .i64 e.kd) ∧ w6.cell? ⟨gE, 7, none⟩ = some (.int .i64 e.nn) ∧ w6.cell? ⟨gE, 8, none⟩ = some (.int .u64 (e.hh : Nat)) ∧ w6.cell? ⟨gE, 9, none⟩ = some (.int .u64 (e.hx : Nat)) ∧ w6.cell? ⟨gE, 10, none⟩ = some (.int .u64 (e.hy : Nat)) ∧ w6.cell? ⟨gE, 11, none⟩ = some (.int .i64 e.er) ∧ w6.cell? ⟨gE, 12, none⟩ = some (.int .u64 (e.ah : Nat)) ∧ w6.cell? ⟨gE, 13, none⟩ = some (.bool e.ay) := by simp [World.cell?, hqE]
            obtain ⟨v0, v1, v2, v3, v4, v5, v6, v7, v8, v9, v10, v11, v12, v13⟩ : w6.cell? ⟨gF, 0, none⟩ = some (.int .i64 f.cl) ∧ w6.cell? ⟨gF, 1, none⟩ = some (.int .i64 f.op) ∧ w6.cell? ⟨gF, 2, none⟩ = some (.int .i64 f.bg) ∧ w6.cell? ⟨gF, 3, none⟩ = some (.int .i64 f.pt) ∧ w6.cell? ⟨gF, 4, none⟩ = some (.int .i64 f.en) ∧ w6.cell? ⟨gF, 5, none⟩ = some (.bool f.bh) ∧ w6.cell? ⟨gF, 6, none⟩ = some (.int .i64 f.kd) ∧ w6.cell? ⟨gF, 7, none⟩ = some (.int .i64 f.nn) ∧ w6.cell? ⟨gF, 8, none⟩ = some (.int .u64 (f.hh : Nat)) ∧ w6.cell? ⟨gF, 9, none⟩ = some (.int .u64 (f.hx : Nat)) ∧ w6.cell? ⟨gF, 10, none⟩ = some (.int .u64 (f.hy : Nat)) ∧ w6.cell? ⟨gF, 11, none⟩ = some (.int .i64 f.er) ∧ w6.cell? ⟨gF, 12, none⟩ = some (.int .u64 (f.ah : Nat)) ∧ w6.cell? ⟨gF, 13, none⟩ = some (.bool f.ay) := by simp [World.cell?, hqF]
            clear hqE hqF
            by_cases p1 : e.cl = f.cl
            · have t1 : (e.cl == f.cl) = true := by simpa using p1
              by_cases p2 : e.op = f.op
              · have t2 : (e.op == f.op) = true := by simpa using p2
                have hr : rb = false := by
                  cases hb : rb with
                  | false => rfl
                  | true =>
                    have := ((right_iff (by rw [← hE.out]; exact O.out)).2 (hrb.out.1 hb)).2 kp x y e f ix.out.1.1 (by rw [hkp.out]; exact ix.out.1.2) ix.out.2.1 ix.out.2.2 p1
                    exact absurd p2 this.1
                subst hr
                replace p1 := hid1 p1
                replace p2 := hid1 p2
                go_wp2
                go_ret
                exact ⟨rfl, seq_below bel.out (seq_below b2.out b6.out)⟩
              · have t2 : (e.op == f.op) = false := by simpa using p2
                obtain ⟨ra, hra⟩ : ∃ ra, ahB e f = ra := ⟨_, rfl⟩
                have ca : ∀ w, Calls Try.prog 36 #[.agg #[.int .i64 e.cl, .int .i64 e.op, .int .i64 e.bg, .int .i64 e.pt, .int .i64 e.en, .bool e.bh, .int .i64 e.kd, .int .i64 e.nn, .int .u64 (e.hh : Nat), .int .u64 (e.hx : Nat), .int .u64 (e.hy : Nat), .int .i64 e.er, .int .u64 (e.ah : Nat), .bool e.ay], .agg #[.int .i64 f.cl, .int .i64 f.op, .int .i64 f.bg, .int .i64 f.pt, .int .i64 f.en, .bool f.bh, .int .i64 f.kd, .int .i64 f.nn, .int .u64 (f.hh : Nat), .int .u64 (f.hx : Nat), .int .u64 (f.hy : Nat), .int .i64 f.er, .int .u64 (f.ah : Nat), .bool f.ay]] w fun r w' => r = .returned (.bool ra) ∧ Below w.heap.size w w' := fun w => by rw [← hra]; exact ahead_any e f w
                replace ca := hid1 ca
                replace p1 := hid1 p1
                replace p2 := hid1 p2
                cases ra with
                | true =>
                  replace hra := hid1 hra
                  go_wp2_with (go_at_call 36; with_reducible refine (ca.out _).mono ?_; rintro r w7 ⟨rfl, b7⟩)
                  go_roundg (i + 1 - (k + 1))
                  case measure => omega
                  case rel => exact ⟨k + 1, by go_num, by omega, by omega, Nat.le_refl _, hid1 (seq_below b2.out (seq_below b6.out b7)), hid1 (fun j a b e1 f1 hj h1 h2 h3 h4 => by
                      by_cases q : j = kp
                      · subst q
                        rw [ix.out.1.1] at h1; obtain rfl := Option.some.inj h1
                        rw [hkp.out, ix.out.1.2] at h2; obtain rfl := Option.some.inj h2
                        rw [ix.out.2.1] at h3; obtain rfl := Option.some.inj h3
                        rw [ix.out.2.2] at h4; obtain rfl := Option.some.inj h4
                        exact fun _ => ⟨p2.out, (by have := hra.out; unfold ahB at this; exact of_decide_eq_true this)⟩
                      · exact I.out j a b e1 f1 (by have := hkp.out; omega) h1 h2 h3 h4)⟩
                | false =>
                  have hr : rb = false := by
                    cases hb : rb with
                    | false => rfl
                    | true =>
                      have := ((right_iff (by rw [← hE.out]; exact O.out)).2 (hrb.out.1 hb)).2 kp x y e f ix.out.1.1 (by rw [hkp.out]; exact ix.out.1.2) ix.out.2.1 ix.out.2.2 p1.out
                      exact absurd this.2 (by unfold ahB at hra; exact of_decide_eq_false hra)
                  subst hr
                  replace hra := hid1 hra
                  go_wp2_with (go_at_call 36; with_reducible refine (ca.out _).mono ?_; rintro r w7 ⟨rfl, b7⟩)
                  go_ret
                  exact ⟨rfl, seq_below bel.out (seq_below b2.out (seq_below b6.out b7))⟩
            · have t1 : (e.cl == f.cl) = false := by simpa using p1
              replace p1 := hid1 p1
              go_wp2
              go_roundg (i + 1 - (k + 1))
              case measure => omega
              case rel => exact ⟨k + 1, by go_num, by omega, by omega, Nat.le_refl _, hid1 (seq_below b2.out b6.out), hid1 (fun j a b e1 f1 hj h1 h2 h3 h4 => by
                  by_cases q : j = kp
                  · subst q
                    rw [ix.out.1.1] at h1; obtain rfl := Option.some.inj h1
                    rw [hkp.out, ix.out.1.2] at h2; obtain rfl := Option.some.inj h2
                    rw [ix.out.2.1] at h3; obtain rfl := Option.some.inj h3
                    rw [ix.out.2.2] at h4; obtain rfl := Option.some.inj h4
                    exact fun h => absurd h p1.out
                  · exact I.out j a b e1 f1 (by have := hkp.out; omega) h1 h2 h3 h4)⟩
          · go_simp
            have hq1 := new_obj wr (.cells #[.int .i64 0, .int .i64 0, .int .i64 0, .int .i64 0, .int .i64 0, .bool false, .int .i64 0, .int .i64 0, .int .u64 0, .int .u64 0, .int .u64 0, .int .i64 0, .int .u64 0, .bool false] 43)
            have z1 : (wr.alloc (.cells #[.int .i64 0, .int .i64 0, .int .i64 0, .int .i64 0, .int .i64 0, .bool false, .int .i64 0, .int .i64 0, .int .u64 0, .int .u64 0, .int .u64 0, .int .i64 0, .int .u64 0, .bool false] 43)).heap.size = wr.heap.size + 1 := by simp
            have hS2 := alloc_below wr (.cells #[.int .i64 0, .int .i64 0, .int .i64 0, .int .i64 0, .int .i64 0, .bool false, .int .i64 0, .int .i64 0, .int .u64 0, .int .u64 0, .int .u64 0, .int .i64 0, .int .u64 0, .bool false] 43)
            refine hK.out _ _ hS2.drew (fun _ => ?_)
            (try simp only [Act.put, List.setIfInBounds_toArray, List.set_cons_zero, List.set_cons_succ])
            clear hK K
            refine wpAnyH_ready (rs := [15]) (by kernel_rfl) (by simp) (AllReadyH.cons (o := { dst := some 9, op := Go.Op.alloc 43, type := 0, pos := "hist.go:26", after := #[], guard := none }) rfl (fun K hK => ?_) AllReadyH.nil)
            go_simp
            have hq2 := new_obj (wr.alloc (.cells #[.int .i64 0, .int .i64 0, .int .i64 0, .int .i64 0, .int .i64 0, .bool false, .int .i64 0, .int .i64 0, .int .u64 0, .int .u64 0, .int .u64 0, .int .i64 0, .int .u64 0, .bool false] 43)) (.cells #[.int .i64 0, .int .i64 0, .int .i64 0, .int .i64 0, .int .i64 0, .bool false, .int .i64 0, .int .i64 0, .int .u64 0, .int .u64 0, .int .u64 0, .int .i64 0, .int .u64 0, .bool false] 43)
            have hS3 := (seq_below hS2 (alloc_below _ (.cells #[.int .i64 0, .int .i64 0, .int .i64 0, .int .i64 0, .int .i64 0, .bool false, .int .i64 0, .int .i64 0, .int .u64 0, .int .u64 0, .int .u64 0, .int .i64 0, .int .u64 0, .bool false] 43))).drew
            rw [z1] at hq2
            have hq1b := (Below.heap_alloc (wr.alloc (.cells #[.int .i64 0, .int .i64 0, .int .i64 0, .int .i64 0, .int .i64 0, .bool false, .int .i64 0, .int .i64 0, .int .u64 0, .int .u64 0, .int .u64 0, .int .i64 0, .int .u64 0, .bool false] 43)) (.cells #[.int .i64 0, .int .i64 0, .int .i64 0, .int .i64 0, .int .i64 0, .bool false, .int .i64 0, .int .i64 0, .int .u64 0, .int .u64 0, .int .u64 0, .int .i64 0, .int .u64 0, .bool false] 43) wr.heap.size (by rw [z1]; omega)).trans hq1
            replace hq1b : ((wr.alloc (.cells #[.int .i64 0, .int .i64 0, .int .i64 0, .int .i64 0, .int .i64 0, .bool false, .int .i64 0, .int .i64 0, .int .u64 0, .int .u64 0, .int .u64 0, .int .i64 0, .int .u64 0, .bool false] 43)).alloc (.cells #[.int .i64 0, .int .i64 0, .int .i64 0, .int .i64 0, .int .i64 0, .bool false, .int .i64 0, .int .i64 0, .int .u64 0, .int .u64 0, .int .u64 0, .int .i64 0, .int .u64 0, .bool false] 43)).drew.heap[wr.heap.size]? = _ := hq1b
            replace hq2 : ((wr.alloc (.cells #[.int .i64 0, .int .i64 0, .int .i64 0, .int .i64 0, .int .i64 0, .bool false, .int .i64 0, .int .i64 0, .int .u64 0, .int .u64 0, .int .u64 0, .int .i64 0, .int .u64 0, .bool false] 43)).alloc (.cells #[.int .i64 0, .int .i64 0, .int .i64 0, .int .i64 0, .int .i64 0, .bool false, .int .i64 0, .int .i64 0, .int .u64 0, .int .u64 0, .int .u64 0, .int .i64 0, .int .u64 0, .bool false] 43)).drew.heap[wr.heap.size + 1]? = _ := hq2
            clear hq1 z1 hS2
            refine hK.out _ _ hS3 (fun _ => ?_)
            (try simp only [Act.put, List.setIfInBounds_toArray, List.set_cons_zero, List.set_cons_succ])
            clear hK K
            generalize World.drew _ = wA at hq2 hq1b hS3 ⊢
            obtain ⟨g1, hgz⟩ : ∃ g1, wr.heap.size = g1 := ⟨_, rfl⟩
            have hq1c : wA.heap[g1]? = some (.cells #[.int .i64 0, .int .i64 0, .int .i64 0, .int .i64 0, .int .i64 0, .bool false, .int .i64 0, .int .i64 0, .int .u64 0, .int .u64 0, .int .u64 0, .int .i64 0, .int .u64 0, .bool false] 43 (0, 0)) := by rw [← hgz]; exact hq1b
            have hq2c : wA.heap[g1 + 1]? = some (.cells #[.int .i64 0, .int .i64 0, .int .i64 0, .int .i64 0, .int .i64 0, .bool false, .int .i64 0, .int .i64 0, .int .u64 0, .int .u64 0, .int .u64 0, .int .i64 0, .int .u64 0, .bool false] 43 (0, 0)) := by rw [← hgz]; exact hq2
            clear hq1b hq2
            rw [hgz]
            replace hgz := hid1 hgz
            refine wpAnyH_ready (rs := [17]) (by kernel_rfl) (by simp) (AllReadyH.cons (o := { dst := none, op := Go.Op.store 43 (Go.Operand.tmp 9) (Go.Operand.tmp 56), type := 0, pos := "hist.go:26", after := #[{ on := 15, ground := Go.Ground.data }, { on := 7, ground := Go.Ground.data }, { on := 0, ground := Go.Ground.phase }, { on := 1, ground := Go.Ground.phase }, { on := 2, ground := Go.Ground.phase }, { on := 3, ground := Go.Ground.phase }, { on := 4, ground := Go.Ground.phase }, { on := 5, ground := Go.Ground.phase }, { on := 6, ground := Go.Ground.phase }, { on := 7, ground := Go.Ground.phase }, { on := 8, ground := Go.Ground.textOnly Go.Departure.lateStores }, { on := 9, ground := Go.Ground.textOnly Go.Departure.lateStores }, { on := 10, ground := Go.Ground.textOnly Go.Departure.lateStores }, { on := 11, ground := Go.Ground.textOnly Go.Departure.lateStores }, { on := 12, ground := Go.Ground.textOnly Go.Departure.lateStores }, { on := 13, ground := Go.Ground.textOnly Go.Departure.lateStores }, { on := 14, ground := Go.Ground.textOnly Go.Departure.lateStores }, { on := 15, ground := Go.Ground.phase }, { on := 16, ground := Go.Ground.phase }], guard := none }) rfl (fun K hK => ?_) AllReadyH.nil)
            refine wp_store_row 43 (.tmp 9) (.tmp 56) rfl (g1 + 1) #[.int .i64 e.cl, .int .i64 e.op, .int .i64 e.bg, .int .i64 e.pt, .int .i64 e.en, .bool e.bh, .int .i64 e.kd, .int .i64 e.nn, .int .u64 (e.hh : Nat), .int .u64 (e.hx : Nat), .int .u64 (e.hy : Nat), .int .i64 e.er, .int .u64 (e.ah : Nat), .bool e.ay] rfl rfl 43 #[.int .i64 0, .int .i64 0, .int .i64 0, .int .i64 0, .int .i64 0, .bool false, .int .i64 0, .int .i64 0, .int .u64 0, .int .u64 0, .int .u64 0, .int .i64 0, .int .u64 0, .bool false] hq2c (by show _ = some 14; kernel_rfl) rfl (by kernel_rfl) ?_
            have hS4 := below_setRow hS3 (g1 + 1) (by have := hgz.out; omega) #[.int .i64 e.cl, .int .i64 e.op, .int .i64 e.bg, .int .i64 e.pt, .int .i64 e.en, .bool e.bh, .int .i64 e.kd, .int .i64 e.nn, .int .u64 (e.hh : Nat), .int .u64 (e.hx : Nat), .int .u64 (e.hy : Nat), .int .i64 e.er, .int .u64 (e.ah : Nat), .bool e.ay]
            have hqE := setRow_heap wA (g1 + 1) _ #[.int .i64 e.cl, .int .i64 e.op, .int .i64 e.bg, .int .i64 e.pt, .int .i64 e.en, .bool e.bh, .int .i64 e.kd, .int .i64 e.nn, .int .u64 (e.hh : Nat), .int .u64 (e.hx : Nat), .int .u64 (e.hy : Nat), .int .i64 e.er, .int .u64 (e.ah : Nat), .bool e.ay] _ _ hq2c
            have hqF := (setRow_other wA (g1 + 1) #[.int .i64 e.cl, .int .i64 e.op, .int .i64 e.bg, .int .i64 e.pt, .int .i64 e.en, .bool e.bh, .int .i64 e.kd, .int .i64 e.nn, .int .u64 (e.hh : Nat), .int .u64 (e.hx : Nat), .int .u64 (e.hy : Nat), .int .i64 e.er, .int .u64 (e.ah : Nat), .bool e.ay] (g1) (by omega)).trans hq1c
            refine hK.out _ _ (by have q := hS4; rw [hgz.out] at q; exact q) (fun _ => ?_)
            (try simp only [Act.put, List.setIfInBounds_toArray, List.set_cons_zero, List.set_cons_succ])
            clear hK K hq1c hq2c hS3
            generalize World.setRow _ _ _ = wB at hqE hqF hS4 ⊢
            refine wpAnyH_ready (rs := [18]) (by kernel_rfl) (by simp) (AllReadyH.cons (o := { dst := none, op := Go.Op.store 43 (Go.Operand.tmp 10) (Go.Operand.tmp 63), type := 0, pos := "hist.go:26", after := #[{ on := 16, ground := Go.Ground.data }, { on := 14, ground := Go.Ground.data }, { on := 17, ground := Go.Ground.chain }, { on := 0, ground := Go.Ground.phase }, { on := 1, ground := Go.Ground.phase }, { on := 2, ground := Go.Ground.phase }, { on := 3, ground := Go.Ground.phase }, { on := 4, ground := Go.Ground.phase }, { on := 5, ground := Go.Ground.phase }, { on := 6, ground := Go.Ground.phase }, { on := 7, ground := Go.Ground.phase }, { on := 8, ground := Go.Ground.phase }, { on := 9, ground := Go.Ground.phase }, { on := 10, ground := Go.Ground.phase }, { on := 11, ground := Go.Ground.phase }, { on := 12, ground := Go.Ground.phase }, { on := 13, ground := Go.Ground.phase }, { on := 14, ground := Go.Ground.phase }, { on := 15, ground := Go.Ground.phase }, { on := 16, ground := Go.Ground.phase }, { on := 17, ground := Go.Ground.phase }], guard := none }) rfl (fun K hK => ?_) AllReadyH.nil)
            refine wp_store_row 43 (.tmp 10) (.tmp 63) rfl (g1) #[.int .i64 f.cl, .int .i64 f.op, .int .i64 f.bg, .int .i64 f.pt, .int .i64 f.en, .bool f.bh, .int .i64 f.kd, .int .i64 f.nn, .int .u64 (f.hh : Nat), .int .u64 (f.hx : Nat), .int .u64 (f.hy : Nat), .int .i64 f.er, .int .u64 (f.ah : Nat), .bool f.ay] rfl rfl 43 #[.int .i64 0, .int .i64 0, .int .i64 0, .int .i64 0, .int .i64 0, .bool false, .int .i64 0, .int .i64 0, .int .u64 0, .int .u64 0, .int .u64 0, .int .i64 0, .int .u64 0, .bool false] hqF (by show _ = some 14; kernel_rfl) rfl (by kernel_rfl) ?_
            have b6 := below_setRow hS4 (g1) (by have := hgz.out; omega) #[.int .i64 f.cl, .int .i64 f.op, .int .i64 f.bg, .int .i64 f.pt, .int .i64 f.en, .bool f.bh, .int .i64 f.kd, .int .i64 f.nn, .int .u64 (f.hh : Nat), .int .u64 (f.hx : Nat), .int .u64 (f.hy : Nat), .int .i64 f.er, .int .u64 (f.ah : Nat), .bool f.ay]
            replace hqE := (setRow_other wB (g1) #[.int .i64 f.cl, .int .i64 f.op, .int .i64 f.bg, .int .i64 f.pt, .int .i64 f.en, .bool f.bh, .int .i64 f.kd, .int .i64 f.nn, .int .u64 (f.hh : Nat), .int .u64 (f.hx : Nat), .int .u64 (f.hy : Nat), .int .i64 f.er, .int .u64 (f.ah : Nat), .bool f.ay] (g1 + 1) (by omega)).trans hqE
            replace hqF := setRow_heap wB (g1) _ #[.int .i64 f.cl, .int .i64 f.op, .int .i64 f.bg, .int .i64 f.pt, .int .i64 f.en, .bool f.bh, .int .i64 f.kd, .int .i64 f.nn, .int .u64 (f.hh : Nat), .int .u64 (f.hx : Nat), .int .u64 (f.hy : Nat), .int .i64 f.er, .int .u64 (f.ah : Nat), .bool f.ay] _ _ hqF
            refine hK.out _ _ (by have q := b6; rw [hgz.out] at q; exact q) (fun _ => ?_)
            (try simp only [Act.put, List.setIfInBounds_toArray, List.set_cons_zero, List.set_cons_succ])
            clear hK K hS4
            generalize World.setRow _ _ _ = w6 at hqE hqF b6 ⊢
            replace b6 := hid1 b6
            obtain ⟨gE, hgE⟩ : ∃ gE, g1 + 1 = gE := ⟨_, rfl⟩
            obtain ⟨gF, hgF⟩ : ∃ gF, g1 = gF := ⟨_, rfl⟩
            rw [hgE] at hqE
            rw [hgF] at hqF
            rw [hgE]
            rw [hgF]
            refine wpAnyH_done (by kernel_rfl) ?_ _
            clear hgE hgF hS1 hgz
            obtain ⟨y0, y1, y2, y3, y4, y5, y6, y7, y8, y9, y10, y11, y12, y13⟩ : w6.cell? ⟨gE, 0, none⟩ = some (.int .i64 e.cl) ∧ w6.cell? ⟨gE, 1, none⟩ = some (.int .i64 e.op) ∧ w6.cell? ⟨gE, 2, none⟩ = some (.int .i64 e.bg) ∧ w6.cell? ⟨gE, 3, none⟩ = some (.int .i64 e.pt) ∧ w6.cell? ⟨gE, 4, none⟩ = some (.int .i64 e.en) ∧ w6.cell? ⟨gE, 5, none⟩ = some (.bool e.bh) ∧ w6.cell? ⟨gE, 6, none⟩ = some (.int .i64 e.kd) ∧ w6.cell? ⟨gE, 7, none⟩ = some (.int .i64 e.nn) ∧ w6.cell? ⟨gE, 8, none⟩ = some (.int .u64 (e.hh : Nat)) ∧ w6.cell? ⟨gE, 9, none⟩ = some (.int .u64 (e.hx : Nat)) ∧ w6.cell? ⟨gE, 10, none⟩ = some (.int .u64 (e.hy : Nat)) ∧ w6.cell? ⟨gE, 11, none⟩ = some (.int .i64 e.er) ∧ w6.cell? ⟨gE, 12, none⟩ = some (.int .u64 (e.ah : Nat)) ∧ w6.cell? ⟨gE, 13, none⟩ = some (.bool e.ay) := by simp [World.cell?, hqE]
            obtain ⟨v0, v1, v2, v3, v4, v5, v6, v7, v8, v9, v10, v11, v12, v13⟩ : w6.cell? ⟨gF, 0, none⟩ = some (.int .i64 f.cl) ∧ w6.cell? ⟨gF, 1, none⟩ = some (.int .i64 f.op) ∧ w6.cell? ⟨gF, 2, none⟩ = some (.int .i64 f.bg) ∧ w6.cell? ⟨gF, 3, none⟩ = some (.int .i64 f.pt) ∧ w6.cell? ⟨gF, 4, none⟩ = some (.int .i64 f.en) ∧ w6.cell? ⟨gF, 5, none⟩ = some (.bool f.bh) ∧ w6.cell? ⟨gF, 6, none⟩ = some (.int .i64 f.kd) ∧ w6.cell? ⟨gF, 7, none⟩ = some (.int .i64 f.nn) ∧ w6.cell? ⟨gF, 8, none⟩ = some (.int .u64 (f.hh : Nat)) ∧ w6.cell? ⟨gF, 9, none⟩ = some (.int .u64 (f.hx : Nat)) ∧ w6.cell? ⟨gF, 10, none⟩ = some (.int .u64 (f.hy : Nat)) ∧ w6.cell? ⟨gF, 11, none⟩ = some (.int .i64 f.er) ∧ w6.cell? ⟨gF, 12, none⟩ = some (.int .u64 (f.ah : Nat)) ∧ w6.cell? ⟨gF, 13, none⟩ = some (.bool f.ay) := by simp [World.cell?, hqF]
            clear hqE hqF
            by_cases p1 : e.cl = f.cl
            · have t1 : (e.cl == f.cl) = true := by simpa using p1
              by_cases p2 : e.op = f.op
              · have t2 : (e.op == f.op) = true := by simpa using p2
                have hr : rb = false := by
                  cases hb : rb with
                  | false => rfl
                  | true =>
                    have := ((right_iff (by rw [← hE.out]; exact O.out)).2 (hrb.out.1 hb)).2 kp x y e f ix.out.1.1 (by rw [hkp.out]; exact ix.out.1.2) ix.out.2.1 ix.out.2.2 p1
                    exact absurd p2 this.1
                subst hr
                replace p1 := hid1 p1
                replace p2 := hid1 p2
                go_wp2
                go_ret
                exact ⟨rfl, seq_below bel.out (seq_below b2.out b6.out)⟩
              · have t2 : (e.op == f.op) = false := by simpa using p2
                obtain ⟨ra, hra⟩ : ∃ ra, ahB e f = ra := ⟨_, rfl⟩
                have ca : ∀ w, Calls Try.prog 36 #[.agg #[.int .i64 e.cl, .int .i64 e.op, .int .i64 e.bg, .int .i64 e.pt, .int .i64 e.en, .bool e.bh, .int .i64 e.kd, .int .i64 e.nn, .int .u64 (e.hh : Nat), .int .u64 (e.hx : Nat), .int .u64 (e.hy : Nat), .int .i64 e.er, .int .u64 (e.ah : Nat), .bool e.ay], .agg #[.int .i64 f.cl, .int .i64 f.op, .int .i64 f.bg, .int .i64 f.pt, .int .i64 f.en, .bool f.bh, .int .i64 f.kd, .int .i64 f.nn, .int .u64 (f.hh : Nat), .int .u64 (f.hx : Nat), .int .u64 (f.hy : Nat), .int .i64 f.er, .int .u64 (f.ah : Nat), .bool f.ay]] w fun r w' => r = .returned (.bool ra) ∧ Below w.heap.size w w' := fun w => by rw [← hra]; exact ahead_any e f w
                replace ca := hid1 ca
                replace p1 := hid1 p1
                replace p2 := hid1 p2
                cases ra with
                | true =>
                  replace hra := hid1 hra
                  go_wp2_with (go_at_call 36; with_reducible refine (ca.out _).mono ?_; rintro r w7 ⟨rfl, b7⟩)
                  go_roundg (i + 1 - (k + 1))
                  case measure => omega
                  case rel => exact ⟨k + 1, by go_num, by omega, by omega, Nat.le_refl _, hid1 (seq_below b2.out (seq_below b6.out b7)), hid1 (fun j a b e1 f1 hj h1 h2 h3 h4 => by
                      by_cases q : j = kp
                      · subst q
                        rw [ix.out.1.1] at h1; obtain rfl := Option.some.inj h1
                        rw [hkp.out, ix.out.1.2] at h2; obtain rfl := Option.some.inj h2
                        rw [ix.out.2.1] at h3; obtain rfl := Option.some.inj h3
                        rw [ix.out.2.2] at h4; obtain rfl := Option.some.inj h4
                        exact fun _ => ⟨p2.out, (by have := hra.out; unfold ahB at this; exact of_decide_eq_true this)⟩
                      · exact I.out j a b e1 f1 (by have := hkp.out; omega) h1 h2 h3 h4)⟩
                | false =>
                  have hr : rb = false := by
                    cases hb : rb with
                    | false => rfl
                    | true =>
                      have := ((right_iff (by rw [← hE.out]; exact O.out)).2 (hrb.out.1 hb)).2 kp x y e f ix.out.1.1 (by rw [hkp.out]; exact ix.out.1.2) ix.out.2.1 ix.out.2.2 p1.out
                      exact absurd this.2 (by unfold ahB at hra; exact of_decide_eq_false hra)
                  subst hr
                  replace hra := hid1 hra
                  go_wp2_with (go_at_call 36; with_reducible refine (ca.out _).mono ?_; rintro r w7 ⟨rfl, b7⟩)
                  go_ret
                  exact ⟨rfl, seq_below bel.out (seq_below b2.out (seq_below b6.out b7))⟩
            · have t1 : (e.cl == f.cl) = false := by simpa using p1
              replace p1 := hid1 p1
              go_wp2
              go_roundg (i + 1 - (k + 1))
              case measure => omega
              case rel => exact ⟨k + 1, by go_num, by omega, by omega, Nat.le_refl _, hid1 (seq_below b2.out b6.out), hid1 (fun j a b e1 f1 hj h1 h2 h3 h4 => by
                  by_cases q : j = kp
                  · subst q
                    rw [ix.out.1.1] at h1; obtain rfl := Option.some.inj h1
                    rw [hkp.out, ix.out.1.2] at h2; obtain rfl := Option.some.inj h2
                    rw [ix.out.2.1] at h3; obtain rfl := Option.some.inj h3
                    rw [ix.out.2.2] at h4; obtain rfl := Option.some.inj h4
                    exact fun h => absurd h p1.out
                  · exact I.out j a b e1 f1 (by have := hkp.out; omega) h1 h2 h3 h4)⟩
        · have hltz : ¬ (k : Int) < (i : Int) := by omega
          have hr : rb = true := hrb.out.2 ((right_iff (by rw [← hE.out]; exact O.out)).1 ⟨OK.out, fun j a b e f h1 h2 he hf => I.out j a b e f (by have := (List.getElem?_eq_some_iff.1 h2).1; have := O.out.len; omega) h1 h2 he hf⟩)
          subst hr
          go_wp2
          go_ret
          exact ⟨rfl, seq_below bel.out b2.out⟩
end Go.Proofs.Ytecppcakgfohbab
