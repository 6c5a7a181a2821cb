/- A Free's last step. -/
import Derived.Test.YtjbjijkkmlehgaaDoorPD
import Derived.Deep.QuietTactic
import Derived.BigQuiet
namespace Go.Proofs.YtjbjijkkmlehgaaDoor
open Go.RowKit
open Hh (WT wordOf okW Hr)
open Mm (IsWords)
set_option linter.unusedVariables false

set_option maxRecDepth 100000 in
set_option maxHeartbeats 20000000 in
/-- A Free goes its last step. -/
theorem step_fr_done {w : World} {K : Cf} (hK : K.Ok) {B M G D L P o s : Nat} {cur : Array Value} {X X1 md : List Nat} {T T1 : Int} {f : Fr} {Q : World → Prop} (row : RowM w L cur) (wd : WdAt w K B M D) (hm : MemX w M G X T) (ht : 0 ≤ T ∧ T < 4611686018427387904) (h1 : T1 ≤ T + 1) (h7 : cur[o + 7]? = some (.pointer none)) (h8 : cur[o + 8]? = some (.pointer (some ⟨P, 0, none⟩))) (h9 : cur[o + 9]? = some (.int .i64 (s : Nat))) (hs : s < K.S) (hX1 : X1.length = K.N) (hml : md.length = K.S)
    (hok : okW (X1.getD (K.hd s) 0) = true) (hcs : (K.g ≤ (md.getD s 0 : Int) ∧ f.gone = true ∧ f.back = false ∧ kdW (X1.getD (K.hd s) 0) = 4) ∨ ((md.getD s 0 : Int) < K.g ∧ f.gone = false ∧ f.back = true))
    (cs : Calls Tryd.prog 26 #[.pointer (some ⟨P, 0, none⟩), .pointer (some ⟨M, 0, none⟩)] w.drew fun e w' => e = .returned (.bool true) ∧ RowM w' L cur ∧ WdAt w' K B M D ∧ MemX w' M G X1 T1 ∧ FrIn w' K P f ∧ IsMd w' D md ∧ Q w') :
    Calls Tryd.prog 11 #[.pointer (some ⟨L, o, none⟩), .pointer (some ⟨B, 0, none⟩)] w fun e w' => e = .returned (.bool true) ∧ ∃ w1, (RowM w1 L cur ∧ MemX w1 M G X1 T1 ∧ IsMd w1 D md ∧ Q w1) ∧ ∃ w2, Below w1.heap.size w1 w2 ∧ w' = w2.setCell ⟨L, o + 8, none⟩ (.pointer none) := by
  have q7 := row.cell h7
  have q8 := row.cell h8
  have b6 := wd.cells.2.1
  have c41 := touchesX hm
  have hw1 : IntKind.i64.wrap (T + 1) = T + 1 := by rw [IntKind.wrap_i64]; omega
  have row2 := RowM.below row (Below.refl _ _).drew
  have wd2 := WdAt.below wd (Below.refl _ _).drew
  have hS : (w.drew.cell? ⟨B, 6, none⟩ = some (.pointer (some ⟨M, 0, none⟩)) ∧ w.drew.cell? ⟨L, o + 8, none⟩ = some (.pointer (some ⟨P, 0, none⟩))) := ⟨wd2.cells.2.1, row2.cell h8⟩
  have kp : Hid (∀ w', RowM w' L cur → WdAt w' K B M D → (w'.cell? ⟨B, 6, none⟩ = some (.pointer (some ⟨M, 0, none⟩)) ∧ w'.cell? ⟨L, o + 8, none⟩ = some (.pointer (some ⟨P, 0, none⟩)))) := fun w' a b => ⟨b.cells.2.1, a.cell h8⟩
  have CS := hide (cs)
  have HB := hK
  have hl := hK.N_b
  have HC16 : Hid (∀ w1, WdAt w1 K B M D → ∀ wr, Below w1.heap.size w1 wr → Calls Tryd.prog 16 #[.pointer (some ⟨B, 0, none⟩), .string ⟨#[104, 101, 97, 100, 101, 114]⟩, .int .i64 (s : Nat), .int .i64 0] wr fun e w' => e = .returned (.int .i64 (K.hd s : Nat)) ∧ Below wr.heap.size wr w') := fun w1 h wr b => wat16_hd hK (h.below b) hs
  have HD : Hid (K.hd s < X1.length) := by unfold Hid; rw [hX1]; exact K.hd_lt hs
  have HX : Hid (X1.length = K.N ∧ K.N ≤ 65536 ∧ md.length = K.S ∧ s < md.length) := ⟨hX1, by omega, hml, by omega⟩
  have H7 : Hid (cur[o + 7]? = some (.pointer none)) := h7
  have H8 : Hid (cur[o + 8]? = some (.pointer (some ⟨P, 0, none⟩))) := h8
  have H9 : Hid (cur[o + 9]? = some (.int .i64 (s : Nat))) := h9
  have HCS := hide (hcs)
  have HOK := hide (hok)
  clear cs row wd hm row2 wd2 h7 h8 h9 hX1 hml HB hl hs hcs hok hK
  go_enter Tryd.func11, Tryd.ntmps11
  go_upto_region 7 with (go_at_call 41; refine c41.mono ?_; rintro e w0 ⟨rfl, rfl⟩)
  clear c41
  go_region_held (fun wr => (wr.cell? ⟨B, 6, none⟩ = some (.pointer (some ⟨M, 0, none⟩)) ∧ wr.cell? ⟨L, o + 8, none⟩ = some (.pointer (some ⟨P, 0, none⟩)))) (first | with_reducible exact hS | with_reducible exact kp.out _ r1 d1) (first
    | (go_at_call 26; refine Calls.mono CS.out ?_; rintro e w1 ⟨rfl, r1, d1, x1, fr1, m1, hq⟩))
  have c41 := touchesX x1
  clear q7 b6 q8 hS
  have b6 := d1.cells.2.1
  have q7 := r1.cell H7.out
  have R1 := hide (r1)
  have D1 := hide (d1)
  have X1h := hide (x1)
  have F1 := hide (fr1)
  have M1 := hide (m1)
  have HQ : Hid (Q w1) := hq
  clear r1 d1 x1 fr1 m1 hq CS kp
  go_upto_region 14 with (go_at_call 41; refine c41.mono ?_; rintro e w2 ⟨rfl, rfl⟩)
  clear c41 b6 q7 hw1 h1 ht
  obtain ⟨mm, gg, aa, nn, ss, hnn, c15'⟩ := unp_ok (X1h.out.fits (K.hd s)) HOK.out
  obtain ⟨kd, hkd⟩ : ∃ kd : Int, ((kdW (X1.getD (K.hd s) 0) : Nat) : Int) = kd := ⟨_, rfl⟩
  rw [hkd] at c15'
  have HCS2 : Hid ((K.g ≤ (md.getD s 0 : Int) ∧ f.gone = true ∧ f.back = false ∧ kd = 4) ∨ ((md.getD s 0 : Int) < K.g ∧ f.gone = false ∧ f.back = true)) := by
    rcases HCS.out with ⟨a1, a2, a3, a4⟩ | h
    · exact .inl ⟨a1, a2, a3, by rw [← hkd, a4]; rfl⟩
    · exact .inr h
  clear hnn HCS HOK hkd
  have c16' := HC16.out w1 D1.out
  have hdl : K.hd s < X1.length := HD.out
  have c13' : ∀ wr, Below w1.heap.size w1 wr → Calls Tryd.prog 13 #[.pointer (some ⟨M, 0, none⟩)] wr fun e w' => ∃ Q, e = .returned (.slice (some ⟨Q, 0, none⟩) X1.length X1.length) ∧ IsWords w' Q X1 ∧ Below wr.heap.size wr w' := fun wr b => (wordsX (X1h.out.below b) rfl (by have := HX.out; omega)).mono fun e w' ⟨R, a1, a2, _, a4⟩ => ⟨R, a1, a2, a4⟩
  have hWd := hide (rfl : X1.getD (K.hd s) 0 = X1.getD (K.hd s) 0)
  obtain ⟨W, hWg⟩ : ∃ W, X1.getD (K.hd s) 0 = W := ⟨_, rfl⟩
  rw [hWg] at c15'
  have HWD := hide hWg
  have hsS : s < K.S := by have := HX.out; omega
  have HC : Hid (∀ wr, Below w1.heap.size w1 wr → (wr.cell? ⟨B, 6, none⟩ = some (.pointer (some ⟨M, 0, none⟩)) ∧ wr.cell? ⟨L, o + 9, none⟩ = some (.int .i64 (s : Nat)))) := fun wr b => ⟨(WdAt.below D1.out b).cells.2.1, (RowM.below R1.out b).cell H9.out⟩
  clear hWg hWd HC16
  obtain ⟨hd, hhd⟩ : ∃ hd, K.hd s = hd := ⟨_, rfl⟩
  rw [hhd] at hdl HWD c16'
  have HDL := hide hdl
  obtain ⟨N, hN⟩ : ∃ N, X1.length = N := ⟨_, rfl⟩
  rw [hN] at hdl c13'
  have c15 := hide c15'
  have c16 := hide c16'
  have c13 := hide c13'
  have HML : Hid (s < md.length) := HX.out.2.2.2
  clear c15' c16' c13' hhd hN HD HX
  have bl : Below w1.heap.size w1 w1.drew := (Below.refl _ _).drew
  have hS0 := HC.out _ bl
  refine wp_region_held_drew (S := fun wr => wr.cell? ⟨B, 6, none⟩ = some (.pointer (some ⟨M, 0, none⟩)) ∧ wr.cell? ⟨L, o + 9, none⟩ = some (.int .i64 (s : Nat))) (by kernel_rfl) hS0 (fun hS1 => ?_)
  clear hS0
  refine wpAnyH_take (i := 0) (oi := { dst := some 81, op := Go.Op.move (Go.Operand.tmp 1), type := 27, pos := "law.go:111", after := #[], guard := none }) (v := .pointer (some ⟨B, 0, none⟩)) rfl (by kernel_rfl) (by kernel_rfl) (by kernel_rfl) (fun _ _ _ h => h) (Or.inl ⟨by rfl, fun w hSw => by (try dsimp only at hSw); go_simp⟩) hS1 ?_
  simp only [Act.put, List.setIfInBounds_toArray, List.set_cons_zero, List.set_cons_succ]
  refine wpAnyH_take (i := 1) (oi := { dst := some 82, op := Go.Op.nilCheck (Go.Operand.tmp 81), type := 0, pos := "law.go:111", after := #[{ on := 0, ground := Go.Ground.data }], guard := none }) (v := .pointer (some ⟨B, 0, none⟩)) rfl (by kernel_rfl) (by kernel_rfl) (by kernel_rfl) (fun _ _ _ h => h) (Or.inl ⟨by rfl, fun w hSw => by (try dsimp only at hSw); go_simp⟩) hS1 ?_
  simp only [Act.put, List.setIfInBounds_toArray, List.set_cons_zero, List.set_cons_succ]
  refine wpAnyH_take (i := 2) (oi := { dst := some 83, op := Go.Op.fieldAddr 31 (Go.Operand.tmp 82) 1, type := 0, pos := "law.go:111", after := #[{ on := 1, ground := Go.Ground.data }], guard := none }) (v := .pointer (some ⟨B, 6, none⟩)) rfl (by kernel_rfl) (by kernel_rfl) (by kernel_rfl) (fun _ _ _ h => h) (Or.inl ⟨by rfl, fun w hSw => by (try dsimp only at hSw); go_simp⟩) hS1 ?_
  simp only [Act.put, List.setIfInBounds_toArray, List.set_cons_zero, List.set_cons_succ]
  refine wpAnyH_take (i := 3) (oi := { dst := some 84, op := Go.Op.load 28 (Go.Operand.tmp 83), type := 28, pos := "law.go:111", after := #[{ on := 2, ground := Go.Ground.data }], guard := none }) (v := .pointer (some ⟨M, 0, none⟩)) rfl (by kernel_rfl) (by kernel_rfl) (by kernel_rfl) (fun _ _ _ h => h) (Or.inl ⟨by rfl, fun w hSw => by (try dsimp only at hSw); go_simp⟩) hS1 ?_
  simp only [Act.put, List.setIfInBounds_toArray, List.set_cons_zero, List.set_cons_succ]
  refine wpAnyH_take (i := 5) (oi := { dst := some 86, op := Go.Op.move (Go.Operand.tmp 1), type := 27, pos := "law.go:111", after := #[], guard := none }) (v := .pointer (some ⟨B, 0, none⟩)) rfl (by kernel_rfl) (by kernel_rfl) (by kernel_rfl) (fun _ _ _ h => h) (Or.inl ⟨by rfl, fun w hSw => by (try dsimp only at hSw); go_simp⟩) hS1 ?_
  simp only [Act.put, List.setIfInBounds_toArray, List.set_cons_zero, List.set_cons_succ]
  refine wpAnyH_take (i := 6) (oi := { dst := some 87, op := Go.Op.move (Go.Operand.tmp 0), type := 87, pos := "law.go:111", after := #[], guard := none }) (v := .pointer (some ⟨L, o, none⟩)) rfl (by kernel_rfl) (by kernel_rfl) (by kernel_rfl) (fun _ _ _ h => h) (Or.inl ⟨by rfl, fun w hSw => by (try dsimp only at hSw); go_simp⟩) hS1 ?_
  simp only [Act.put, List.setIfInBounds_toArray, List.set_cons_zero, List.set_cons_succ]
  refine wpAnyH_take (i := 7) (oi := { dst := some 88, op := Go.Op.nilCheck (Go.Operand.tmp 87), type := 0, pos := "law.go:111", after := #[{ on := 6, ground := Go.Ground.data }], guard := none }) (v := .pointer (some ⟨L, o, none⟩)) rfl (by kernel_rfl) (by kernel_rfl) (by kernel_rfl) (fun _ _ _ h => h) (Or.inl ⟨by rfl, fun w hSw => by (try dsimp only at hSw); go_simp⟩) hS1 ?_
  simp only [Act.put, List.setIfInBounds_toArray, List.set_cons_zero, List.set_cons_succ]
  refine wpAnyH_take (i := 8) (oi := { dst := some 89, op := Go.Op.fieldAddr 41 (Go.Operand.tmp 88) 5, type := 0, pos := "law.go:111", after := #[{ on := 7, ground := Go.Ground.data }], guard := none }) (v := .pointer (some ⟨L, o + 9, none⟩)) rfl (by kernel_rfl) (by kernel_rfl) (by kernel_rfl) (fun _ _ _ h => h) (Or.inl ⟨by rfl, fun w hSw => by (try dsimp only at hSw); go_simp⟩) hS1 ?_
  simp only [Act.put, List.setIfInBounds_toArray, List.set_cons_zero, List.set_cons_succ]
  refine wpAnyH_take (i := 9) (oi := { dst := some 90, op := Go.Op.load 3 (Go.Operand.tmp 89), type := 3, pos := "law.go:111", after := #[{ on := 8, ground := Go.Ground.data }], guard := none }) (v := .int .i64 (s : Nat)) rfl (by kernel_rfl) (by kernel_rfl) (by kernel_rfl) (fun _ _ _ h => h) (Or.inl ⟨by rfl, fun w hSw => by (try dsimp only at hSw); go_simp⟩) hS1 ?_
  simp only [Act.put, List.setIfInBounds_toArray, List.set_cons_zero, List.set_cons_succ]
  refine wpAnyH_ready (rs := [4, 17]) (by kernel_rfl) (by simp) (AllReadyH.cons (o := { dst := some 85, op := Go.Op.call { callee := Go.Callee.value (Go.Operand.func 13), args := #[Go.Operand.tmp 84], argTypes := #[28] }, type := 44, pos := "law.go:111", after := #[{ on := 3, ground := Go.Ground.data }], guard := none }) rfl (fun K hK => ?_) (AllReadyH.cons (o := { dst := some 7, op := Go.Op.alloc 48, type := 0, pos := "law.go:111", after := #[], guard := none }) rfl (fun K hK => ?_) AllReadyH.nil))
  · go_simp
    go_at_call 13
    with_reducible refine (c13.out _ bl).mono ?_
    rintro e v1 ⟨Q, rfl, hq, b⟩
    (try simp only [])
    replace bl := seq_below bl b
    clear b
    refine hK.out _ _ (HC.out _ bl) (fun hS1 => ?_)
    (try simp only [Act.put, List.setIfInBounds_toArray, List.set_cons_zero, List.set_cons_succ])
    clear hK K
    refine wpAnyH_ready (rs := [10, 17]) (by kernel_rfl) (by simp) (AllReadyH.cons (o := { dst := some 91, op := Go.Op.call { callee := Go.Callee.value (Go.Operand.func 16), args := #[Go.Operand.tmp 86, Go.Operand.const (Go.Value.string { data := #[104, 101, 97, 100, 101, 114] }), Go.Operand.tmp 90, Go.Operand.const (Go.Value.int Go.IntKind.i64 0)], argTypes := #[27, 9, 3, 3] }, type := 3, pos := "law.go:111", after := #[{ on := 5, ground := Go.Ground.data }, { on := 9, ground := Go.Ground.data }, { on := 4, ground := Go.Ground.chain }], guard := none }) rfl (fun K hK => ?_) (AllReadyH.cons (o := { dst := some 7, op := Go.Op.alloc 48, type := 0, pos := "law.go:111", after := #[], guard := none }) rfl (fun K hK => ?_) AllReadyH.nil))
    · go_simp
      go_at_call 16
      with_reducible refine (c16.out _ bl).mono ?_
      rintro e v2 ⟨rfl, b⟩
      (try simp only [])
      replace hq := words_below hq b
      replace bl := seq_below bl b
      clear b
      refine hK.out _ _ (HC.out _ bl) (fun hS1 => ?_)
      (try simp only [Act.put, List.setIfInBounds_toArray, List.set_cons_zero, List.set_cons_succ])
      clear hK K
      refine wpAnyH_take (i := 11) (oi := { dst := some 92, op := Go.Op.indexAddr 44 (Go.Operand.tmp 85) (Go.Operand.tmp 91), type := 0, pos := "law.go:111", after := #[{ on := 4, ground := Go.Ground.data }, { on := 10, ground := Go.Ground.data }], guard := none }) (v := .pointer (some ⟨Q, hd, none⟩)) rfl (by kernel_rfl) (by kernel_rfl) (by kernel_rfl) (fun _ _ _ h => h) (Or.inl ⟨by rfl, fun w hSw => by (try dsimp only at hSw); go_simp⟩) hS1 ?_
      simp only [Act.put, List.setIfInBounds_toArray, List.set_cons_zero, List.set_cons_succ]
      refine wpAnyH_ready (rs := [12, 17]) (by kernel_rfl) (by simp) (AllReadyH.cons (o := { dst := some 93, op := Go.Op.load 35 (Go.Operand.tmp 92), type := 35, pos := "law.go:111", after := #[{ on := 11, ground := Go.Ground.data }], guard := none }) rfl (fun K hK => ?_) (AllReadyH.cons (o := { dst := some 7, op := Go.Op.alloc 48, type := 0, pos := "law.go:111", after := #[], guard := none }) rfl (fun K hK => ?_) AllReadyH.nil))
      · have hqc := word_cell hq HDL.out HWD.out
        go_simp
        refine hK.out _ _ (HC.out _ bl) (fun hS1 => ?_)
        (try simp only [Act.put, List.setIfInBounds_toArray, List.set_cons_zero, List.set_cons_succ])
        clear hK K hqc hq
        refine wpAnyH_ready (rs := [13, 17]) (by kernel_rfl) (by simp) (AllReadyH.cons (o := { dst := some 94, op := Go.Op.call { callee := Go.Callee.value (Go.Operand.func 15), args := #[Go.Operand.tmp 93], argTypes := #[35] }, type := 49, pos := "law.go:111", after := #[{ on := 12, ground := Go.Ground.data }, { on := 10, ground := Go.Ground.chain }], guard := none }) rfl (fun K hK => ?_) (AllReadyH.cons (o := { dst := some 7, op := Go.Op.alloc 48, type := 0, pos := "law.go:111", after := #[], guard := none }) rfl (fun K hK => ?_) AllReadyH.nil))
        · go_simp
          go_at_call 15
          with_reducible refine (c15.out _).mono ?_
          rintro e v4 ⟨rfl, b⟩
          (try simp only [])
          replace bl := seq_below bl b
          clear b
          refine hK.out _ _ (HC.out _ bl) (fun hS1 => ?_)
          (try simp only [Act.put, List.setIfInBounds_toArray, List.set_cons_zero, List.set_cons_succ])
          clear hK K
          refine wpAnyH_take (i := 14) (oi := { dst := some 80, op := Go.Op.move (Go.Operand.tmp 94), type := 49, pos := "law.go:111", after := #[{ on := 13, ground := Go.Ground.data }], guard := none }) (v := .tuple #[.agg #[.int .i64 kd, .int .i64 mm, .bool gg, .int .i64 aa, .int .i64 nn, .int .i64 ss], .bool true]) rfl (by kernel_rfl) (by kernel_rfl) (by kernel_rfl) (fun _ _ _ h => h) (Or.inl ⟨by rfl, fun w hSw => by (try dsimp only at hSw); go_simp⟩) hS1 ?_
          simp only [Act.put, List.setIfInBounds_toArray, List.set_cons_zero, List.set_cons_succ]
          refine wpAnyH_take (i := 15) (oi := { dst := some 95, op := Go.Op.extract (Go.Operand.tmp 80) 0, type := 48, pos := "law.go:111", after := #[{ on := 14, ground := Go.Ground.data }], guard := none }) (v := .agg #[.int .i64 kd, .int .i64 mm, .bool gg, .int .i64 aa, .int .i64 nn, .int .i64 ss]) rfl (by kernel_rfl) (by kernel_rfl) (by kernel_rfl) (fun _ _ _ h => h) (Or.inl ⟨by rfl, fun w hSw => by (try dsimp only at hSw); go_simp⟩) hS1 ?_
          simp only [Act.put, List.setIfInBounds_toArray, List.set_cons_zero, List.set_cons_succ]
          refine wpAnyH_take (i := 16) (oi := { dst := some 96, op := Go.Op.extract (Go.Operand.tmp 80) 1, type := 4, pos := "law.go:111", after := #[{ on := 14, ground := Go.Ground.data }, { on := 18, ground := Go.Ground.gcOnly Go.Departure.lateStores }], guard := none }) (v := .bool true) rfl (by kernel_rfl) (by kernel_rfl) (by kernel_rfl) (fun _ _ _ h => h) (Or.inl ⟨by rfl, fun w hSw => by (try dsimp only at hSw); go_simp⟩) hS1 ?_
          simp only [Act.put, List.setIfInBounds_toArray, List.set_cons_zero, List.set_cons_succ]
          refine wpAnyH_ready (rs := [17]) (by kernel_rfl) (by simp) (AllReadyH.cons (o := { dst := some 7, op := Go.Op.alloc 48, type := 0, pos := "law.go:111", after := #[], guard := none }) rfl (fun K hK => ?_) AllReadyH.nil)
          go_simp
          have hz := hide (HdN.ofNew bl)
          replace bl := seq_below bl (alloc_below _ (.cells #[.int .i64 0, .int .i64 0, .bool false, .int .i64 0, .int .i64 0, .int .i64 0] 48))
          refine hK.out _ _ (HC.out _ bl) (fun hS1 => ?_)
          (try simp only [Act.put, List.setIfInBounds_toArray, List.set_cons_zero, List.set_cons_succ])
          clear hK K
          generalize v4.heap.size = R at hz ⊢
          generalize v4.alloc (.cells #[.int .i64 0, .int .i64 0, .bool false, .int .i64 0, .int .i64 0, .int .i64 0] 48) = wA at *
          refine wpAnyH_ready (rs := [18]) (by kernel_rfl) (by simp) (AllReadyH.cons (o := { dst := none, op := Go.Op.store 48 (Go.Operand.tmp 7) (Go.Operand.tmp 95), type := 0, pos := "law.go:111", after := #[{ on := 17, ground := Go.Ground.data }, { on := 15, ground := Go.Ground.data }, { on := 13, ground := Go.Ground.chain }, { on := 0, ground := Go.Ground.phase }, { on := 1, ground := Go.Ground.phase }, { on := 2, ground := Go.Ground.phase }, { on := 3, ground := Go.Ground.phase }, { on := 4, ground := Go.Ground.phase }, { on := 5, ground := Go.Ground.phase }, { on := 6, ground := Go.Ground.phase }, { on := 7, ground := Go.Ground.phase }, { on := 8, ground := Go.Ground.phase }, { on := 9, ground := Go.Ground.phase }, { on := 10, ground := Go.Ground.phase }, { on := 11, ground := Go.Ground.phase }, { on := 12, ground := Go.Ground.phase }, { on := 13, ground := Go.Ground.phase }, { on := 14, ground := Go.Ground.phase }, { on := 15, ground := Go.Ground.phase }, { on := 16, ground := Go.Ground.textOnly Go.Departure.lateStores }, { on := 17, ground := Go.Ground.phase }], guard := none }) rfl (fun K hK => ?_) AllReadyH.nil)
          obtain ⟨⟨q0, q1, q2, q3, q4, q5⟩, y⟩ := hz.out.cells
          have y0 := y 0
          have y1 := y 1
          have y2 := y 2
          have y3 := y 3
          have y4 := y 4
          have y5 := y 5
          clear y
          go_simp
          replace bl := hz.out.six bl (.int .i64 kd) (.int .i64 mm) (.bool gg) (.int .i64 aa) (.int .i64 nn) (.int .i64 ss)
          have hdR := Hh.hd_stored hz.out.hd kd mm gg aa nn ss
          have hRn := hz.out.new
          refine hK.out _ _ (HC.out _ bl) (fun hS1 => ?_)
          (try simp only [Act.put, List.setIfInBounds_toArray, List.set_cons_zero, List.set_cons_succ])
          clear hK K q0 q1 q2 q3 q4 q5 y0 y1 y2 y3 y4 y5 hz
          refine wpAnyH_take (i := 19) (oi := { dst := some 8, op := Go.Op.assign (Go.Operand.tmp 96), type := 4, pos := "law.go:111", after := #[{ on := 16, ground := Go.Ground.data }, { on := 18, ground := Go.Ground.chain }, { on := 0, ground := Go.Ground.phase }, { on := 1, ground := Go.Ground.phase }, { on := 2, ground := Go.Ground.phase }, { on := 3, ground := Go.Ground.phase }, { on := 4, ground := Go.Ground.phase }, { on := 5, ground := Go.Ground.phase }, { on := 6, ground := Go.Ground.phase }, { on := 7, ground := Go.Ground.phase }, { on := 8, ground := Go.Ground.phase }, { on := 9, ground := Go.Ground.phase }, { on := 10, ground := Go.Ground.phase }, { on := 11, ground := Go.Ground.phase }, { on := 12, ground := Go.Ground.phase }, { on := 13, ground := Go.Ground.phase }, { on := 14, ground := Go.Ground.phase }, { on := 15, ground := Go.Ground.phase }, { on := 16, ground := Go.Ground.phase }, { on := 17, ground := Go.Ground.phase }, { on := 18, ground := Go.Ground.phase }], guard := none }) (v := .bool true) rfl (by kernel_rfl) (by kernel_rfl) (by kernel_rfl) (fun _ _ _ h => h) (Or.inl ⟨by rfl, fun w hSw => by (try dsimp only at hSw); go_simp⟩) hS1 ?_
          simp only [Act.put, List.setIfInBounds_toArray, List.set_cons_zero, List.set_cons_succ]
          refine wpAnyH_done (by kernel_rfl) ?_ _
          clear hS1
          generalize ((((((wA.setCell ⟨R, 0, none⟩ (.int .i64 kd)).setCell ⟨R, 1, none⟩ (.int .i64 mm)).setCell ⟨R, 2, none⟩ (.bool gg)).setCell ⟨R, 3, none⟩ (.int .i64 aa)).setCell ⟨R, 4, none⟩ (.int .i64 nn)).setCell ⟨R, 5, none⟩ (.int .i64 ss)) = wf at *
          have r2 := RowM.below R1.out bl
          have d2 := WdAt.below D1.out bl
          have m2 := IsMd.below M1.out bl
          have f2 := FrIn.below F1.out bl
          obtain ⟨fb, fg⟩ := f2.cells
          have k0 := hdR.cells.1
          obtain ⟨⟨_, _, _, _, b4, _⟩, _, b7⟩ := d2.cells
          have t9 := r2.cell H9.out
          have t8 := r2.cell H8.out
          have y8 := r2.free (o + 8)
          have ms := m2.cell HML.out
          have BL := hide bl
          clear r2 d2 m2 f2 hdR hRn bl hdl
          rcases HCS2.out with ⟨a1, a2, a3, a4⟩ | ⟨a1, a2, a3⟩
          all_goals
            generalize (md.getD s 0 : Nat) = mv at *
            rw [a2] at fg
            rw [a3] at fb
            (try subst a4)
            have a5 := hide a1
            (try (have a6 : ¬ K.g ≤ (mv : Int) := by omega))
            go_upto_region 15 with fail
            go_region
            go_wp2
            go_ret
            exact ⟨rfl, w1, ⟨R1.out, X1h.out, M1.out, HQ.out⟩, _, BL.out.drew, rfl⟩
        · go_simp
          have hz := hide (HdN.ofNew bl)
          replace bl := seq_below bl (alloc_below _ (.cells #[.int .i64 0, .int .i64 0, .bool false, .int .i64 0, .int .i64 0, .int .i64 0] 48))
          refine hK.out _ _ (HC.out _ bl) (fun hS1 => ?_)
          (try simp only [Act.put, List.setIfInBounds_toArray, List.set_cons_zero, List.set_cons_succ])
          clear hK K
          generalize v2.heap.size = R at hz ⊢
          generalize v2.alloc (.cells #[.int .i64 0, .int .i64 0, .bool false, .int .i64 0, .int .i64 0, .int .i64 0] 48) = wA at *
          refine wpAnyH_ready (rs := [13]) (by kernel_rfl) (by simp) (AllReadyH.cons (o := { dst := some 94, op := Go.Op.call { callee := Go.Callee.value (Go.Operand.func 15), args := #[Go.Operand.tmp 93], argTypes := #[35] }, type := 49, pos := "law.go:111", after := #[{ on := 12, ground := Go.Ground.data }, { on := 10, ground := Go.Ground.chain }], guard := none }) rfl (fun K hK => ?_) AllReadyH.nil)
          go_simp
          go_at_call 15
          with_reducible refine (c15.out _).mono ?_
          rintro e v4 ⟨rfl, b⟩
          (try simp only [])
          replace bl := seq_below bl b
          replace hz := hide (hz.out.below b)
          clear b
          refine hK.out _ _ (HC.out _ bl) (fun hS1 => ?_)
          (try simp only [Act.put, List.setIfInBounds_toArray, List.set_cons_zero, List.set_cons_succ])
          clear hK K
          refine wpAnyH_take (i := 14) (oi := { dst := some 80, op := Go.Op.move (Go.Operand.tmp 94), type := 49, pos := "law.go:111", after := #[{ on := 13, ground := Go.Ground.data }], guard := none }) (v := .tuple #[.agg #[.int .i64 kd, .int .i64 mm, .bool gg, .int .i64 aa, .int .i64 nn, .int .i64 ss], .bool true]) rfl (by kernel_rfl) (by kernel_rfl) (by kernel_rfl) (fun _ _ _ h => h) (Or.inl ⟨by rfl, fun w hSw => by (try dsimp only at hSw); go_simp⟩) hS1 ?_
          simp only [Act.put, List.setIfInBounds_toArray, List.set_cons_zero, List.set_cons_succ]
          refine wpAnyH_take (i := 15) (oi := { dst := some 95, op := Go.Op.extract (Go.Operand.tmp 80) 0, type := 48, pos := "law.go:111", after := #[{ on := 14, ground := Go.Ground.data }], guard := none }) (v := .agg #[.int .i64 kd, .int .i64 mm, .bool gg, .int .i64 aa, .int .i64 nn, .int .i64 ss]) rfl (by kernel_rfl) (by kernel_rfl) (by kernel_rfl) (fun _ _ _ h => h) (Or.inl ⟨by rfl, fun w hSw => by (try dsimp only at hSw); go_simp⟩) hS1 ?_
          simp only [Act.put, List.setIfInBounds_toArray, List.set_cons_zero, List.set_cons_succ]
          refine wpAnyH_take (i := 16) (oi := { dst := some 96, op := Go.Op.extract (Go.Operand.tmp 80) 1, type := 4, pos := "law.go:111", after := #[{ on := 14, ground := Go.Ground.data }, { on := 18, ground := Go.Ground.gcOnly Go.Departure.lateStores }], guard := none }) (v := .bool true) rfl (by kernel_rfl) (by kernel_rfl) (by kernel_rfl) (fun _ _ _ h => h) (Or.inl ⟨by rfl, fun w hSw => by (try dsimp only at hSw); go_simp⟩) hS1 ?_
          simp only [Act.put, List.setIfInBounds_toArray, List.set_cons_zero, List.set_cons_succ]
          refine wpAnyH_ready (rs := [18]) (by kernel_rfl) (by simp) (AllReadyH.cons (o := { dst := none, op := Go.Op.store 48 (Go.Operand.tmp 7) (Go.Operand.tmp 95), type := 0, pos := "law.go:111", after := #[{ on := 17, ground := Go.Ground.data }, { on := 15, ground := Go.Ground.data }, { on := 13, ground := Go.Ground.chain }, { on := 0, ground := Go.Ground.phase }, { on := 1, ground := Go.Ground.phase }, { on := 2, ground := Go.Ground.phase }, { on := 3, ground := Go.Ground.phase }, { on := 4, ground := Go.Ground.phase }, { on := 5, ground := Go.Ground.phase }, { on := 6, ground := Go.Ground.phase }, { on := 7, ground := Go.Ground.phase }, { on := 8, ground := Go.Ground.phase }, { on := 9, ground := Go.Ground.phase }, { on := 10, ground := Go.Ground.phase }, { on := 11, ground := Go.Ground.phase }, { on := 12, ground := Go.Ground.phase }, { on := 13, ground := Go.Ground.phase }, { on := 14, ground := Go.Ground.phase }, { on := 15, ground := Go.Ground.phase }, { on := 16, ground := Go.Ground.textOnly Go.Departure.lateStores }, { on := 17, ground := Go.Ground.phase }], guard := none }) rfl (fun K hK => ?_) AllReadyH.nil)
          obtain ⟨⟨q0, q1, q2, q3, q4, q5⟩, y⟩ := hz.out.cells
          have y0 := y 0
          have y1 := y 1
          have y2 := y 2
          have y3 := y 3
          have y4 := y 4
          have y5 := y 5
          clear y
          go_simp
          replace bl := hz.out.six bl (.int .i64 kd) (.int .i64 mm) (.bool gg) (.int .i64 aa) (.int .i64 nn) (.int .i64 ss)
          have hdR := Hh.hd_stored hz.out.hd kd mm gg aa nn ss
          have hRn := hz.out.new
          refine hK.out _ _ (HC.out _ bl) (fun hS1 => ?_)
          (try simp only [Act.put, List.setIfInBounds_toArray, List.set_cons_zero, List.set_cons_succ])
          clear hK K q0 q1 q2 q3 q4 q5 y0 y1 y2 y3 y4 y5 hz
          refine wpAnyH_take (i := 19) (oi := { dst := some 8, op := Go.Op.assign (Go.Operand.tmp 96), type := 4, pos := "law.go:111", after := #[{ on := 16, ground := Go.Ground.data }, { on := 18, ground := Go.Ground.chain }, { on := 0, ground := Go.Ground.phase }, { on := 1, ground := Go.Ground.phase }, { on := 2, ground := Go.Ground.phase }, { on := 3, ground := Go.Ground.phase }, { on := 4, ground := Go.Ground.phase }, { on := 5, ground := Go.Ground.phase }, { on := 6, ground := Go.Ground.phase }, { on := 7, ground := Go.Ground.phase }, { on := 8, ground := Go.Ground.phase }, { on := 9, ground := Go.Ground.phase }, { on := 10, ground := Go.Ground.phase }, { on := 11, ground := Go.Ground.phase }, { on := 12, ground := Go.Ground.phase }, { on := 13, ground := Go.Ground.phase }, { on := 14, ground := Go.Ground.phase }, { on := 15, ground := Go.Ground.phase }, { on := 16, ground := Go.Ground.phase }, { on := 17, ground := Go.Ground.phase }, { on := 18, ground := Go.Ground.phase }], guard := none }) (v := .bool true) rfl (by kernel_rfl) (by kernel_rfl) (by kernel_rfl) (fun _ _ _ h => h) (Or.inl ⟨by rfl, fun w hSw => by (try dsimp only at hSw); go_simp⟩) hS1 ?_
          simp only [Act.put, List.setIfInBounds_toArray, List.set_cons_zero, List.set_cons_succ]
          refine wpAnyH_done (by kernel_rfl) ?_ _
          clear hS1
          generalize ((((((v4.setCell ⟨R, 0, none⟩ (.int .i64 kd)).setCell ⟨R, 1, none⟩ (.int .i64 mm)).setCell ⟨R, 2, none⟩ (.bool gg)).setCell ⟨R, 3, none⟩ (.int .i64 aa)).setCell ⟨R, 4, none⟩ (.int .i64 nn)).setCell ⟨R, 5, none⟩ (.int .i64 ss)) = wf at *
          have r2 := RowM.below R1.out bl
          have d2 := WdAt.below D1.out bl
          have m2 := IsMd.below M1.out bl
          have f2 := FrIn.below F1.out bl
          obtain ⟨fb, fg⟩ := f2.cells
          have k0 := hdR.cells.1
          obtain ⟨⟨_, _, _, _, b4, _⟩, _, b7⟩ := d2.cells
          have t9 := r2.cell H9.out
          have t8 := r2.cell H8.out
          have y8 := r2.free (o + 8)
          have ms := m2.cell HML.out
          have BL := hide bl
          clear r2 d2 m2 f2 hdR hRn bl hdl
          rcases HCS2.out with ⟨a1, a2, a3, a4⟩ | ⟨a1, a2, a3⟩
          all_goals
            generalize (md.getD s 0 : Nat) = mv at *
            rw [a2] at fg
            rw [a3] at fb
            (try subst a4)
            have a5 := hide a1
            (try (have a6 : ¬ K.g ≤ (mv : Int) := by omega))
            go_upto_region 15 with fail
            go_region
            go_wp2
            go_ret
            exact ⟨rfl, w1, ⟨R1.out, X1h.out, M1.out, HQ.out⟩, _, BL.out.drew, rfl⟩
      · go_simp
        have hz := hide (HdN.ofNew bl)
        replace bl := seq_below bl (alloc_below _ (.cells #[.int .i64 0, .int .i64 0, .bool false, .int .i64 0, .int .i64 0, .int .i64 0] 48))
        replace hq := words_below hq (alloc_below _ (.cells #[.int .i64 0, .int .i64 0, .bool false, .int .i64 0, .int .i64 0, .int .i64 0] 48))
        refine hK.out _ _ (HC.out _ bl) (fun hS1 => ?_)
        (try simp only [Act.put, List.setIfInBounds_toArray, List.set_cons_zero, List.set_cons_succ])
        clear hK K
        generalize v2.heap.size = R at hz ⊢
        generalize v2.alloc (.cells #[.int .i64 0, .int .i64 0, .bool false, .int .i64 0, .int .i64 0, .int .i64 0] 48) = wA at *
        refine wpAnyH_ready (rs := [12]) (by kernel_rfl) (by simp) (AllReadyH.cons (o := { dst := some 93, op := Go.Op.load 35 (Go.Operand.tmp 92), type := 35, pos := "law.go:111", after := #[{ on := 11, ground := Go.Ground.data }], guard := none }) rfl (fun K hK => ?_) AllReadyH.nil)
        have hqc := word_cell hq HDL.out HWD.out
        go_simp
        refine hK.out _ _ (HC.out _ bl) (fun hS1 => ?_)
        (try simp only [Act.put, List.setIfInBounds_toArray, List.set_cons_zero, List.set_cons_succ])
        clear hK K hqc hq
        refine wpAnyH_ready (rs := [13]) (by kernel_rfl) (by simp) (AllReadyH.cons (o := { dst := some 94, op := Go.Op.call { callee := Go.Callee.value (Go.Operand.func 15), args := #[Go.Operand.tmp 93], argTypes := #[35] }, type := 49, pos := "law.go:111", after := #[{ on := 12, ground := Go.Ground.data }, { on := 10, ground := Go.Ground.chain }], guard := none }) rfl (fun K hK => ?_) AllReadyH.nil)
        go_simp
        go_at_call 15
        with_reducible refine (c15.out _).mono ?_
        rintro e v4 ⟨rfl, b⟩
        (try simp only [])
        replace bl := seq_below bl b
        replace hz := hide (hz.out.below b)
        clear b
        refine hK.out _ _ (HC.out _ bl) (fun hS1 => ?_)
        (try simp only [Act.put, List.setIfInBounds_toArray, List.set_cons_zero, List.set_cons_succ])
        clear hK K
        refine wpAnyH_take (i := 14) (oi := { dst := some 80, op := Go.Op.move (Go.Operand.tmp 94), type := 49, pos := "law.go:111", after := #[{ on := 13, ground := Go.Ground.data }], guard := none }) (v := .tuple #[.agg #[.int .i64 kd, .int .i64 mm, .bool gg, .int .i64 aa, .int .i64 nn, .int .i64 ss], .bool true]) rfl (by kernel_rfl) (by kernel_rfl) (by kernel_rfl) (fun _ _ _ h => h) (Or.inl ⟨by rfl, fun w hSw => by (try dsimp only at hSw); go_simp⟩) hS1 ?_
        simp only [Act.put, List.setIfInBounds_toArray, List.set_cons_zero, List.set_cons_succ]
        refine wpAnyH_take (i := 15) (oi := { dst := some 95, op := Go.Op.extract (Go.Operand.tmp 80) 0, type := 48, pos := "law.go:111", after := #[{ on := 14, ground := Go.Ground.data }], guard := none }) (v := .agg #[.int .i64 kd, .int .i64 mm, .bool gg, .int .i64 aa, .int .i64 nn, .int .i64 ss]) rfl (by kernel_rfl) (by kernel_rfl) (by kernel_rfl) (fun _ _ _ h => h) (Or.inl ⟨by rfl, fun w hSw => by (try dsimp only at hSw); go_simp⟩) hS1 ?_
        simp only [Act.put, List.setIfInBounds_toArray, List.set_cons_zero, List.set_cons_succ]
        refine wpAnyH_take (i := 16) (oi := { dst := some 96, op := Go.Op.extract (Go.Operand.tmp 80) 1, type := 4, pos := "law.go:111", after := #[{ on := 14, ground := Go.Ground.data }, { on := 18, ground := Go.Ground.gcOnly Go.Departure.lateStores }], guard := none }) (v := .bool true) rfl (by kernel_rfl) (by kernel_rfl) (by kernel_rfl) (fun _ _ _ h => h) (Or.inl ⟨by rfl, fun w hSw => by (try dsimp only at hSw); go_simp⟩) hS1 ?_
        simp only [Act.put, List.setIfInBounds_toArray, List.set_cons_zero, List.set_cons_succ]
        refine wpAnyH_ready (rs := [18]) (by kernel_rfl) (by simp) (AllReadyH.cons (o := { dst := none, op := Go.Op.store 48 (Go.Operand.tmp 7) (Go.Operand.tmp 95), type := 0, pos := "law.go:111", after := #[{ on := 17, ground := Go.Ground.data }, { on := 15, ground := Go.Ground.data }, { on := 13, ground := Go.Ground.chain }, { on := 0, ground := Go.Ground.phase }, { on := 1, ground := Go.Ground.phase }, { on := 2, ground := Go.Ground.phase }, { on := 3, ground := Go.Ground.phase }, { on := 4, ground := Go.Ground.phase }, { on := 5, ground := Go.Ground.phase }, { on := 6, ground := Go.Ground.phase }, { on := 7, ground := Go.Ground.phase }, { on := 8, ground := Go.Ground.phase }, { on := 9, ground := Go.Ground.phase }, { on := 10, ground := Go.Ground.phase }, { on := 11, ground := Go.Ground.phase }, { on := 12, ground := Go.Ground.phase }, { on := 13, ground := Go.Ground.phase }, { on := 14, ground := Go.Ground.phase }, { on := 15, ground := Go.Ground.phase }, { on := 16, ground := Go.Ground.textOnly Go.Departure.lateStores }, { on := 17, ground := Go.Ground.phase }], guard := none }) rfl (fun K hK => ?_) AllReadyH.nil)
        obtain ⟨⟨q0, q1, q2, q3, q4, q5⟩, y⟩ := hz.out.cells
        have y0 := y 0
        have y1 := y 1
        have y2 := y 2
        have y3 := y 3
        have y4 := y 4
        have y5 := y 5
        clear y
        go_simp
        replace bl := hz.out.six bl (.int .i64 kd) (.int .i64 mm) (.bool gg) (.int .i64 aa) (.int .i64 nn) (.int .i64 ss)
        have hdR := Hh.hd_stored hz.out.hd kd mm gg aa nn ss
        have hRn := hz.out.new
        refine hK.out _ _ (HC.out _ bl) (fun hS1 => ?_)
        (try simp only [Act.put, List.setIfInBounds_toArray, List.set_cons_zero, List.set_cons_succ])
        clear hK K q0 q1 q2 q3 q4 q5 y0 y1 y2 y3 y4 y5 hz
        refine wpAnyH_take (i := 19) (oi := { dst := some 8, op := Go.Op.assign (Go.Operand.tmp 96), type := 4, pos := "law.go:111", after := #[{ on := 16, ground := Go.Ground.data }, { on := 18, ground := Go.Ground.chain }, { on := 0, ground := Go.Ground.phase }, { on := 1, ground := Go.Ground.phase }, { on := 2, ground := Go.Ground.phase }, { on := 3, ground := Go.Ground.phase }, { on := 4, ground := Go.Ground.phase }, { on := 5, ground := Go.Ground.phase }, { on := 6, ground := Go.Ground.phase }, { on := 7, ground := Go.Ground.phase }, { on := 8, ground := Go.Ground.phase }, { on := 9, ground := Go.Ground.phase }, { on := 10, ground := Go.Ground.phase }, { on := 11, ground := Go.Ground.phase }, { on := 12, ground := Go.Ground.phase }, { on := 13, ground := Go.Ground.phase }, { on := 14, ground := Go.Ground.phase }, { on := 15, ground := Go.Ground.phase }, { on := 16, ground := Go.Ground.phase }, { on := 17, ground := Go.Ground.phase }, { on := 18, ground := Go.Ground.phase }], guard := none }) (v := .bool true) rfl (by kernel_rfl) (by kernel_rfl) (by kernel_rfl) (fun _ _ _ h => h) (Or.inl ⟨by rfl, fun w hSw => by (try dsimp only at hSw); go_simp⟩) hS1 ?_
        simp only [Act.put, List.setIfInBounds_toArray, List.set_cons_zero, List.set_cons_succ]
        refine wpAnyH_done (by kernel_rfl) ?_ _
        clear hS1
        generalize ((((((v4.setCell ⟨R, 0, none⟩ (.int .i64 kd)).setCell ⟨R, 1, none⟩ (.int .i64 mm)).setCell ⟨R, 2, none⟩ (.bool gg)).setCell ⟨R, 3, none⟩ (.int .i64 aa)).setCell ⟨R, 4, none⟩ (.int .i64 nn)).setCell ⟨R, 5, none⟩ (.int .i64 ss)) = wf at *
        have r2 := RowM.below R1.out bl
        have d2 := WdAt.below D1.out bl
        have m2 := IsMd.below M1.out bl
        have f2 := FrIn.below F1.out bl
        obtain ⟨fb, fg⟩ := f2.cells
        have k0 := hdR.cells.1
        obtain ⟨⟨_, _, _, _, b4, _⟩, _, b7⟩ := d2.cells
        have t9 := r2.cell H9.out
        have t8 := r2.cell H8.out
        have y8 := r2.free (o + 8)
        have ms := m2.cell HML.out
        have BL := hide bl
        clear r2 d2 m2 f2 hdR hRn bl hdl
        rcases HCS2.out with ⟨a1, a2, a3, a4⟩ | ⟨a1, a2, a3⟩
        all_goals
          generalize (md.getD s 0 : Nat) = mv at *
          rw [a2] at fg
          rw [a3] at fb
          (try subst a4)
          have a5 := hide a1
          (try (have a6 : ¬ K.g ≤ (mv : Int) := by omega))
          go_upto_region 15 with fail
          go_region
          go_wp2
          go_ret
          exact ⟨rfl, w1, ⟨R1.out, X1h.out, M1.out, HQ.out⟩, _, BL.out.drew, rfl⟩
    · go_simp
      have hz := hide (HdN.ofNew bl)
      replace bl := seq_below bl (alloc_below _ (.cells #[.int .i64 0, .int .i64 0, .bool false, .int .i64 0, .int .i64 0, .int .i64 0] 48))
      replace hq := words_below hq (alloc_below _ (.cells #[.int .i64 0, .int .i64 0, .bool false, .int .i64 0, .int .i64 0, .int .i64 0] 48))
      refine hK.out _ _ (HC.out _ bl) (fun hS1 => ?_)
      (try simp only [Act.put, List.setIfInBounds_toArray, List.set_cons_zero, List.set_cons_succ])
      clear hK K
      generalize v1.heap.size = R at hz ⊢
      generalize v1.alloc (.cells #[.int .i64 0, .int .i64 0, .bool false, .int .i64 0, .int .i64 0, .int .i64 0] 48) = wA at *
      refine wpAnyH_ready (rs := [10]) (by kernel_rfl) (by simp) (AllReadyH.cons (o := { dst := some 91, op := Go.Op.call { callee := Go.Callee.value (Go.Operand.func 16), args := #[Go.Operand.tmp 86, Go.Operand.const (Go.Value.string { data := #[104, 101, 97, 100, 101, 114] }), Go.Operand.tmp 90, Go.Operand.const (Go.Value.int Go.IntKind.i64 0)], argTypes := #[27, 9, 3, 3] }, type := 3, pos := "law.go:111", after := #[{ on := 5, ground := Go.Ground.data }, { on := 9, ground := Go.Ground.data }, { on := 4, ground := Go.Ground.chain }], guard := none }) rfl (fun K hK => ?_) AllReadyH.nil)
      go_simp
      go_at_call 16
      with_reducible refine (c16.out _ bl).mono ?_
      rintro e v2 ⟨rfl, b⟩
      (try simp only [])
      replace hq := words_below hq b
      replace bl := seq_below bl b
      replace hz := hide (hz.out.below b)
      clear b
      refine hK.out _ _ (HC.out _ bl) (fun hS1 => ?_)
      (try simp only [Act.put, List.setIfInBounds_toArray, List.set_cons_zero, List.set_cons_succ])
      clear hK K
      refine wpAnyH_take (i := 11) (oi := { dst := some 92, op := Go.Op.indexAddr 44 (Go.Operand.tmp 85) (Go.Operand.tmp 91), type := 0, pos := "law.go:111", after := #[{ on := 4, ground := Go.Ground.data }, { on := 10, ground := Go.Ground.data }], guard := none }) (v := .pointer (some ⟨Q, hd, none⟩)) rfl (by kernel_rfl) (by kernel_rfl) (by kernel_rfl) (fun _ _ _ h => h) (Or.inl ⟨by rfl, fun w hSw => by (try dsimp only at hSw); go_simp⟩) hS1 ?_
      simp only [Act.put, List.setIfInBounds_toArray, List.set_cons_zero, List.set_cons_succ]
      refine wpAnyH_ready (rs := [12]) (by kernel_rfl) (by simp) (AllReadyH.cons (o := { dst := some 93, op := Go.Op.load 35 (Go.Operand.tmp 92), type := 35, pos := "law.go:111", after := #[{ on := 11, ground := Go.Ground.data }], guard := none }) rfl (fun K hK => ?_) AllReadyH.nil)
      have hqc := word_cell hq HDL.out HWD.out
      go_simp
      refine hK.out _ _ (HC.out _ bl) (fun hS1 => ?_)
      (try simp only [Act.put, List.setIfInBounds_toArray, List.set_cons_zero, List.set_cons_succ])
      clear hK K hqc hq
      refine wpAnyH_ready (rs := [13]) (by kernel_rfl) (by simp) (AllReadyH.cons (o := { dst := some 94, op := Go.Op.call { callee := Go.Callee.value (Go.Operand.func 15), args := #[Go.Operand.tmp 93], argTypes := #[35] }, type := 49, pos := "law.go:111", after := #[{ on := 12, ground := Go.Ground.data }, { on := 10, ground := Go.Ground.chain }], guard := none }) rfl (fun K hK => ?_) AllReadyH.nil)
      go_simp
      go_at_call 15
      with_reducible refine (c15.out _).mono ?_
      rintro e v4 ⟨rfl, b⟩
      (try simp only [])
      replace bl := seq_below bl b
      replace hz := hide (hz.out.below b)
      clear b
      refine hK.out _ _ (HC.out _ bl) (fun hS1 => ?_)
      (try simp only [Act.put, List.setIfInBounds_toArray, List.set_cons_zero, List.set_cons_succ])
      clear hK K
      refine wpAnyH_take (i := 14) (oi := { dst := some 80, op := Go.Op.move (Go.Operand.tmp 94), type := 49, pos := "law.go:111", after := #[{ on := 13, ground := Go.Ground.data }], guard := none }) (v := .tuple #[.agg #[.int .i64 kd, .int .i64 mm, .bool gg, .int .i64 aa, .int .i64 nn, .int .i64 ss], .bool true]) rfl (by kernel_rfl) (by kernel_rfl) (by kernel_rfl) (fun _ _ _ h => h) (Or.inl ⟨by rfl, fun w hSw => by (try dsimp only at hSw); go_simp⟩) hS1 ?_
      simp only [Act.put, List.setIfInBounds_toArray, List.set_cons_zero, List.set_cons_succ]
      refine wpAnyH_take (i := 15) (oi := { dst := some 95, op := Go.Op.extract (Go.Operand.tmp 80) 0, type := 48, pos := "law.go:111", after := #[{ on := 14, ground := Go.Ground.data }], guard := none }) (v := .agg #[.int .i64 kd, .int .i64 mm, .bool gg, .int .i64 aa, .int .i64 nn, .int .i64 ss]) rfl (by kernel_rfl) (by kernel_rfl) (by kernel_rfl) (fun _ _ _ h => h) (Or.inl ⟨by rfl, fun w hSw => by (try dsimp only at hSw); go_simp⟩) hS1 ?_
      simp only [Act.put, List.setIfInBounds_toArray, List.set_cons_zero, List.set_cons_succ]
      refine wpAnyH_take (i := 16) (oi := { dst := some 96, op := Go.Op.extract (Go.Operand.tmp 80) 1, type := 4, pos := "law.go:111", after := #[{ on := 14, ground := Go.Ground.data }, { on := 18, ground := Go.Ground.gcOnly Go.Departure.lateStores }], guard := none }) (v := .bool true) rfl (by kernel_rfl) (by kernel_rfl) (by kernel_rfl) (fun _ _ _ h => h) (Or.inl ⟨by rfl, fun w hSw => by (try dsimp only at hSw); go_simp⟩) hS1 ?_
      simp only [Act.put, List.setIfInBounds_toArray, List.set_cons_zero, List.set_cons_succ]
      refine wpAnyH_ready (rs := [18]) (by kernel_rfl) (by simp) (AllReadyH.cons (o := { dst := none, op := Go.Op.store 48 (Go.Operand.tmp 7) (Go.Operand.tmp 95), type := 0, pos := "law.go:111", after := #[{ on := 17, ground := Go.Ground.data }, { on := 15, ground := Go.Ground.data }, { on := 13, ground := Go.Ground.chain }, { on := 0, ground := Go.Ground.phase }, { on := 1, ground := Go.Ground.phase }, { on := 2, ground := Go.Ground.phase }, { on := 3, ground := Go.Ground.phase }, { on := 4, ground := Go.Ground.phase }, { on := 5, ground := Go.Ground.phase }, { on := 6, ground := Go.Ground.phase }, { on := 7, ground := Go.Ground.phase }, { on := 8, ground := Go.Ground.phase }, { on := 9, ground := Go.Ground.phase }, { on := 10, ground := Go.Ground.phase }, { on := 11, ground := Go.Ground.phase }, { on := 12, ground := Go.Ground.phase }, { on := 13, ground := Go.Ground.phase }, { on := 14, ground := Go.Ground.phase }, { on := 15, ground := Go.Ground.phase }, { on := 16, ground := Go.Ground.textOnly Go.Departure.lateStores }, { on := 17, ground := Go.Ground.phase }], guard := none }) rfl (fun K hK => ?_) AllReadyH.nil)
      obtain ⟨⟨q0, q1, q2, q3, q4, q5⟩, y⟩ := hz.out.cells
      have y0 := y 0
      have y1 := y 1
      have y2 := y 2
      have y3 := y 3
      have y4 := y 4
      have y5 := y 5
      clear y
      go_simp
      replace bl := hz.out.six bl (.int .i64 kd) (.int .i64 mm) (.bool gg) (.int .i64 aa) (.int .i64 nn) (.int .i64 ss)
      have hdR := Hh.hd_stored hz.out.hd kd mm gg aa nn ss
      have hRn := hz.out.new
      refine hK.out _ _ (HC.out _ bl) (fun hS1 => ?_)
      (try simp only [Act.put, List.setIfInBounds_toArray, List.set_cons_zero, List.set_cons_succ])
      clear hK K q0 q1 q2 q3 q4 q5 y0 y1 y2 y3 y4 y5 hz
      refine wpAnyH_take (i := 19) (oi := { dst := some 8, op := Go.Op.assign (Go.Operand.tmp 96), type := 4, pos := "law.go:111", after := #[{ on := 16, ground := Go.Ground.data }, { on := 18, ground := Go.Ground.chain }, { on := 0, ground := Go.Ground.phase }, { on := 1, ground := Go.Ground.phase }, { on := 2, ground := Go.Ground.phase }, { on := 3, ground := Go.Ground.phase }, { on := 4, ground := Go.Ground.phase }, { on := 5, ground := Go.Ground.phase }, { on := 6, ground := Go.Ground.phase }, { on := 7, ground := Go.Ground.phase }, { on := 8, ground := Go.Ground.phase }, { on := 9, ground := Go.Ground.phase }, { on := 10, ground := Go.Ground.phase }, { on := 11, ground := Go.Ground.phase }, { on := 12, ground := Go.Ground.phase }, { on := 13, ground := Go.Ground.phase }, { on := 14, ground := Go.Ground.phase }, { on := 15, ground := Go.Ground.phase }, { on := 16, ground := Go.Ground.phase }, { on := 17, ground := Go.Ground.phase }, { on := 18, ground := Go.Ground.phase }], guard := none }) (v := .bool true) rfl (by kernel_rfl) (by kernel_rfl) (by kernel_rfl) (fun _ _ _ h => h) (Or.inl ⟨by rfl, fun w hSw => by (try dsimp only at hSw); go_simp⟩) hS1 ?_
      simp only [Act.put, List.setIfInBounds_toArray, List.set_cons_zero, List.set_cons_succ]
      refine wpAnyH_done (by kernel_rfl) ?_ _
      clear hS1
      generalize ((((((v4.setCell ⟨R, 0, none⟩ (.int .i64 kd)).setCell ⟨R, 1, none⟩ (.int .i64 mm)).setCell ⟨R, 2, none⟩ (.bool gg)).setCell ⟨R, 3, none⟩ (.int .i64 aa)).setCell ⟨R, 4, none⟩ (.int .i64 nn)).setCell ⟨R, 5, none⟩ (.int .i64 ss)) = wf at *
      have r2 := RowM.below R1.out bl
      have d2 := WdAt.below D1.out bl
      have m2 := IsMd.below M1.out bl
      have f2 := FrIn.below F1.out bl
      obtain ⟨fb, fg⟩ := f2.cells
      have k0 := hdR.cells.1
      obtain ⟨⟨_, _, _, _, b4, _⟩, _, b7⟩ := d2.cells
      have t9 := r2.cell H9.out
      have t8 := r2.cell H8.out
      have y8 := r2.free (o + 8)
      have ms := m2.cell HML.out
      have BL := hide bl
      clear r2 d2 m2 f2 hdR hRn bl hdl
      rcases HCS2.out with ⟨a1, a2, a3, a4⟩ | ⟨a1, a2, a3⟩
      all_goals
        generalize (md.getD s 0 : Nat) = mv at *
        rw [a2] at fg
        rw [a3] at fb
        (try subst a4)
        have a5 := hide a1
        (try (have a6 : ¬ K.g ≤ (mv : Int) := by omega))
        go_upto_region 15 with fail
        go_region
        go_wp2
        go_ret
        exact ⟨rfl, w1, ⟨R1.out, X1h.out, M1.out, HQ.out⟩, _, BL.out.drew, rfl⟩
  · go_simp
    have hz := hide (HdN.ofNewD w1)
    replace bl := ((Below.refl w1.heap.size w1).alloc (Nat.le_refl _) (.cells #[.int .i64 0, .int .i64 0, .bool false, .int .i64 0, .int .i64 0, .int .i64 0] 48)).drew
    refine hK.out _ _ (HC.out _ bl) (fun hS1 => ?_)
    (try simp only [Act.put, List.setIfInBounds_toArray, List.set_cons_zero, List.set_cons_succ])
    clear hK K
    generalize w1.heap.size = R at hz ⊢
    generalize (w1.alloc (.cells #[.int .i64 0, .int .i64 0, .bool false, .int .i64 0, .int .i64 0, .int .i64 0] 48)).drew = wA at *
    refine wpAnyH_ready (rs := [4]) (by kernel_rfl) (by simp) (AllReadyH.cons (o := { dst := some 85, op := Go.Op.call { callee := Go.Callee.value (Go.Operand.func 13), args := #[Go.Operand.tmp 84], argTypes := #[28] }, type := 44, pos := "law.go:111", after := #[{ on := 3, ground := Go.Ground.data }], guard := none }) rfl (fun K hK => ?_) AllReadyH.nil)
    go_simp
    go_at_call 13
    with_reducible refine (c13.out _ bl).mono ?_
    rintro e v1 ⟨Q, rfl, hq, b⟩
    (try simp only [])
    replace bl := seq_below bl b
    replace hz := hide (hz.out.below b)
    clear b
    refine hK.out _ _ (HC.out _ bl) (fun hS1 => ?_)
    (try simp only [Act.put, List.setIfInBounds_toArray, List.set_cons_zero, List.set_cons_succ])
    clear hK K
    refine wpAnyH_ready (rs := [10]) (by kernel_rfl) (by simp) (AllReadyH.cons (o := { dst := some 91, op := Go.Op.call { callee := Go.Callee.value (Go.Operand.func 16), args := #[Go.Operand.tmp 86, Go.Operand.const (Go.Value.string { data := #[104, 101, 97, 100, 101, 114] }), Go.Operand.tmp 90, Go.Operand.const (Go.Value.int Go.IntKind.i64 0)], argTypes := #[27, 9, 3, 3] }, type := 3, pos := "law.go:111", after := #[{ on := 5, ground := Go.Ground.data }, { on := 9, ground := Go.Ground.data }, { on := 4, ground := Go.Ground.chain }], guard := none }) rfl (fun K hK => ?_) AllReadyH.nil)
    go_simp
    go_at_call 16
    with_reducible refine (c16.out _ bl).mono ?_
    rintro e v2 ⟨rfl, b⟩
    (try simp only [])
    replace hq := words_below hq b
    replace bl := seq_below bl b
    replace hz := hide (hz.out.below b)
    clear b
    refine hK.out _ _ (HC.out _ bl) (fun hS1 => ?_)
    (try simp only [Act.put, List.setIfInBounds_toArray, List.set_cons_zero, List.set_cons_succ])
    clear hK K
    refine wpAnyH_take (i := 11) (oi := { dst := some 92, op := Go.Op.indexAddr 44 (Go.Operand.tmp 85) (Go.Operand.tmp 91), type := 0, pos := "law.go:111", after := #[{ on := 4, ground := Go.Ground.data }, { on := 10, ground := Go.Ground.data }], guard := none }) (v := .pointer (some ⟨Q, hd, none⟩)) rfl (by kernel_rfl) (by kernel_rfl) (by kernel_rfl) (fun _ _ _ h => h) (Or.inl ⟨by rfl, fun w hSw => by (try dsimp only at hSw); go_simp⟩) hS1 ?_
    simp only [Act.put, List.setIfInBounds_toArray, List.set_cons_zero, List.set_cons_succ]
    refine wpAnyH_ready (rs := [12]) (by kernel_rfl) (by simp) (AllReadyH.cons (o := { dst := some 93, op := Go.Op.load 35 (Go.Operand.tmp 92), type := 35, pos := "law.go:111", after := #[{ on := 11, ground := Go.Ground.data }], guard := none }) rfl (fun K hK => ?_) AllReadyH.nil)
    have hqc := word_cell hq HDL.out HWD.out
    go_simp
    refine hK.out _ _ (HC.out _ bl) (fun hS1 => ?_)
    (try simp only [Act.put, List.setIfInBounds_toArray, List.set_cons_zero, List.set_cons_succ])
    clear hK K hqc hq
    refine wpAnyH_ready (rs := [13]) (by kernel_rfl) (by simp) (AllReadyH.cons (o := { dst := some 94, op := Go.Op.call { callee := Go.Callee.value (Go.Operand.func 15), args := #[Go.Operand.tmp 93], argTypes := #[35] }, type := 49, pos := "law.go:111", after := #[{ on := 12, ground := Go.Ground.data }, { on := 10, ground := Go.Ground.chain }], guard := none }) rfl (fun K hK => ?_) AllReadyH.nil)
    go_simp
    go_at_call 15
    with_reducible refine (c15.out _).mono ?_
    rintro e v4 ⟨rfl, b⟩
    (try simp only [])
    replace bl := seq_below bl b
    replace hz := hide (hz.out.below b)
    clear b
    refine hK.out _ _ (HC.out _ bl) (fun hS1 => ?_)
    (try simp only [Act.put, List.setIfInBounds_toArray, List.set_cons_zero, List.set_cons_succ])
    clear hK K
    refine wpAnyH_take (i := 14) (oi := { dst := some 80, op := Go.Op.move (Go.Operand.tmp 94), type := 49, pos := "law.go:111", after := #[{ on := 13, ground := Go.Ground.data }], guard := none }) (v := .tuple #[.agg #[.int .i64 kd, .int .i64 mm, .bool gg, .int .i64 aa, .int .i64 nn, .int .i64 ss], .bool true]) rfl (by kernel_rfl) (by kernel_rfl) (by kernel_rfl) (fun _ _ _ h => h) (Or.inl ⟨by rfl, fun w hSw => by (try dsimp only at hSw); go_simp⟩) hS1 ?_
    simp only [Act.put, List.setIfInBounds_toArray, List.set_cons_zero, List.set_cons_succ]
    refine wpAnyH_take (i := 15) (oi := { dst := some 95, op := Go.Op.extract (Go.Operand.tmp 80) 0, type := 48, pos := "law.go:111", after := #[{ on := 14, ground := Go.Ground.data }], guard := none }) (v := .agg #[.int .i64 kd, .int .i64 mm, .bool gg, .int .i64 aa, .int .i64 nn, .int .i64 ss]) rfl (by kernel_rfl) (by kernel_rfl) (by kernel_rfl) (fun _ _ _ h => h) (Or.inl ⟨by rfl, fun w hSw => by (try dsimp only at hSw); go_simp⟩) hS1 ?_
    simp only [Act.put, List.setIfInBounds_toArray, List.set_cons_zero, List.set_cons_succ]
    refine wpAnyH_take (i := 16) (oi := { dst := some 96, op := Go.Op.extract (Go.Operand.tmp 80) 1, type := 4, pos := "law.go:111", after := #[{ on := 14, ground := Go.Ground.data }, { on := 18, ground := Go.Ground.gcOnly Go.Departure.lateStores }], guard := none }) (v := .bool true) rfl (by kernel_rfl) (by kernel_rfl) (by kernel_rfl) (fun _ _ _ h => h) (Or.inl ⟨by rfl, fun w hSw => by (try dsimp only at hSw); go_simp⟩) hS1 ?_
    simp only [Act.put, List.setIfInBounds_toArray, List.set_cons_zero, List.set_cons_succ]
    refine wpAnyH_ready (rs := [18]) (by kernel_rfl) (by simp) (AllReadyH.cons (o := { dst := none, op := Go.Op.store 48 (Go.Operand.tmp 7) (Go.Operand.tmp 95), type := 0, pos := "law.go:111", after := #[{ on := 17, ground := Go.Ground.data }, { on := 15, ground := Go.Ground.data }, { on := 13, ground := Go.Ground.chain }, { on := 0, ground := Go.Ground.phase }, { on := 1, ground := Go.Ground.phase }, { on := 2, ground := Go.Ground.phase }, { on := 3, ground := Go.Ground.phase }, { on := 4, ground := Go.Ground.phase }, { on := 5, ground := Go.Ground.phase }, { on := 6, ground := Go.Ground.phase }, { on := 7, ground := Go.Ground.phase }, { on := 8, ground := Go.Ground.phase }, { on := 9, ground := Go.Ground.phase }, { on := 10, ground := Go.Ground.phase }, { on := 11, ground := Go.Ground.phase }, { on := 12, ground := Go.Ground.phase }, { on := 13, ground := Go.Ground.phase }, { on := 14, ground := Go.Ground.phase }, { on := 15, ground := Go.Ground.phase }, { on := 16, ground := Go.Ground.textOnly Go.Departure.lateStores }, { on := 17, ground := Go.Ground.phase }], guard := none }) rfl (fun K hK => ?_) AllReadyH.nil)
    obtain ⟨⟨q0, q1, q2, q3, q4, q5⟩, y⟩ := hz.out.cells
    have y0 := y 0
    have y1 := y 1
    have y2 := y 2
    have y3 := y 3
    have y4 := y 4
    have y5 := y 5
    clear y
    go_simp
    replace bl := hz.out.six bl (.int .i64 kd) (.int .i64 mm) (.bool gg) (.int .i64 aa) (.int .i64 nn) (.int .i64 ss)
    have hdR := Hh.hd_stored hz.out.hd kd mm gg aa nn ss
    have hRn := hz.out.new
    refine hK.out _ _ (HC.out _ bl) (fun hS1 => ?_)
    (try simp only [Act.put, List.setIfInBounds_toArray, List.set_cons_zero, List.set_cons_succ])
    clear hK K q0 q1 q2 q3 q4 q5 y0 y1 y2 y3 y4 y5 hz
    refine wpAnyH_take (i := 19) (oi := { dst := some 8, op := Go.Op.assign (Go.Operand.tmp 96), type := 4, pos := "law.go:111", after := #[{ on := 16, ground := Go.Ground.data }, { on := 18, ground := Go.Ground.chain }, { on := 0, ground := Go.Ground.phase }, { on := 1, ground := Go.Ground.phase }, { on := 2, ground := Go.Ground.phase }, { on := 3, ground := Go.Ground.phase }, { on := 4, ground := Go.Ground.phase }, { on := 5, ground := Go.Ground.phase }, { on := 6, ground := Go.Ground.phase }, { on := 7, ground := Go.Ground.phase }, { on := 8, ground := Go.Ground.phase }, { on := 9, ground := Go.Ground.phase }, { on := 10, ground := Go.Ground.phase }, { on := 11, ground := Go.Ground.phase }, { on := 12, ground := Go.Ground.phase }, { on := 13, ground := Go.Ground.phase }, { on := 14, ground := Go.Ground.phase }, { on := 15, ground := Go.Ground.phase }, { on := 16, ground := Go.Ground.phase }, { on := 17, ground := Go.Ground.phase }, { on := 18, ground := Go.Ground.phase }], guard := none }) (v := .bool true) rfl (by kernel_rfl) (by kernel_rfl) (by kernel_rfl) (fun _ _ _ h => h) (Or.inl ⟨by rfl, fun w hSw => by (try dsimp only at hSw); go_simp⟩) hS1 ?_
    simp only [Act.put, List.setIfInBounds_toArray, List.set_cons_zero, List.set_cons_succ]
    refine wpAnyH_done (by kernel_rfl) ?_ _
    clear hS1
    generalize ((((((v4.setCell ⟨R, 0, none⟩ (.int .i64 kd)).setCell ⟨R, 1, none⟩ (.int .i64 mm)).setCell ⟨R, 2, none⟩ (.bool gg)).setCell ⟨R, 3, none⟩ (.int .i64 aa)).setCell ⟨R, 4, none⟩ (.int .i64 nn)).setCell ⟨R, 5, none⟩ (.int .i64 ss)) = wf at *
    have r2 := RowM.below R1.out bl
    have d2 := WdAt.below D1.out bl
    have m2 := IsMd.below M1.out bl
    have f2 := FrIn.below F1.out bl
    obtain ⟨fb, fg⟩ := f2.cells
    have k0 := hdR.cells.1
    obtain ⟨⟨_, _, _, _, b4, _⟩, _, b7⟩ := d2.cells
    have t9 := r2.cell H9.out
    have t8 := r2.cell H8.out
    have y8 := r2.free (o + 8)
    have ms := m2.cell HML.out
    have BL := hide bl
    clear r2 d2 m2 f2 hdR hRn bl hdl
    rcases HCS2.out with ⟨a1, a2, a3, a4⟩ | ⟨a1, a2, a3⟩
    all_goals
      generalize (md.getD s 0 : Nat) = mv at *
      rw [a2] at fg
      rw [a3] at fb
      (try subst a4)
      have a5 := hide a1
      (try (have a6 : ¬ K.g ≤ (mv : Int) := by omega))
      go_upto_region 15 with fail
      go_region
      go_wp2
      go_ret
      exact ⟨rfl, w1, ⟨R1.out, X1h.out, M1.out, HQ.out⟩, _, BL.out.drew, rfl⟩
end Go.Proofs.YtjbjijkkmlehgaaDoor
