/- Contracts of package arena's Make: Step. -/
import Derived.Test.YtjbjijkkmlehgaaDoorAMake
namespace Go.Proofs.YtjbjijkkmlehgaaDoor
open Go.RowKit
open Mm (IsMem MS touched Only IsWords)
open Hh (WT wordOf bornN okW Hr)

set_option maxHeartbeats 1000000 in
theorem mk_call {w : World} {M G N P : Nat} {X X' : List Nat} {T T' : Int} {c : Array Value} {t : TypeId} {K : Cf} {m m' : Mk} {fn : Nat} (is : InA w w M G N X T P c t) (hm : MkAt c K m) (h1 : m.pc = 0 ∧ fn = 48 ∨ m.pc = 2 ∧ fn = 51 ∨ m.pc = 3 ∧ fn = 52)
    (c0 : Calls Tryd.prog fn #[.pointer (some ⟨P, 0, none⟩), .pointer (some ⟨M, 0, none⟩)] w fun r w' => r = .returned (.tuple #[]) ∧ ∃ c', InA w w' M G N X' T' P c' t ∧ MkAt c' K m') :
    Calls Tryd.prog 20 #[.pointer (some ⟨P, 0, none⟩), .pointer (some ⟨M, 0, none⟩)] w fun r w' => r = .returned (.bool (decide (m'.pc = 4))) ∧ ∃ c', InA w w' M G N X' T' P c' t ∧ MkAt c' K m' := by
  have l8 := is.cell hm.pc
  have hd : ((m'.pc : Int) == 4) = decide (m'.pc = 4) := by by_cases e : m'.pc = 4 <;> simp [e]; omega
  rw [← hd]
  rcases h1 with ⟨h1, rfl⟩ | ⟨h1, rfl⟩ | ⟨h1, rfl⟩
  · rw [h1] at l8
    clear hm hd h1 is
    go_enter Tryd.func20, Tryd.ntmps20
    go_wp2_with (go_at_call 48; refine c0.mono ?_; rintro e w1 ⟨rfl, c1, i1, p1⟩; have m8 := i1.cell p1.pc)
    go_ret
    exact ⟨rfl, c1, i1, p1⟩
  · rw [h1] at l8
    clear hm hd h1 is
    go_enter Tryd.func20, Tryd.ntmps20
    go_wp2_with (go_at_call 51; refine c0.mono ?_; rintro e w1 ⟨rfl, c1, i1, p1⟩; have m8 := i1.cell p1.pc)
    go_ret
    exact ⟨rfl, c1, i1, p1⟩
  · rw [h1] at l8
    clear hm hd h1 is
    go_enter Tryd.func20, Tryd.ntmps20
    go_wp2_with (go_at_call 52; refine c0.mono ?_; rintro e w1 ⟨rfl, c1, i1, p1⟩; have m8 := i1.cell p1.pc)
    go_ret
    exact ⟨rfl, c1, i1, p1⟩

set_option maxHeartbeats 1000000 in
theorem mk_end {w : World} {M G N P : Nat} {X : List Nat} {T : Int} {c : Array Value} {t : TypeId} {K : Cf} {m : Mk} (is : InA w w M G N X T P c t) (hm : MkAt c K m) (h1 : m.pc = 4) (q : Value) :
    Calls Tryd.prog 20 #[.pointer (some ⟨P, 0, none⟩), q] w fun r w' => r = .returned (.bool true) ∧ w = w' := by
  have l8 := is.cell hm.pc
  rw [h1] at l8
  go_enter Tryd.func20, Tryd.ntmps20
  go_wp2
  go_ret
  exact ⟨rfl, rfl⟩
set_option maxHeartbeats 1000000 in
theorem mk_nil (q : Value) (w : World) : Calls Tryd.prog 20 #[.pointer none, q] w fun r w' => r = .returned (.bool true) ∧ w = w' := by
  go_enter Tryd.func20, Tryd.ntmps20
  go_wp2
  go_ret
  exact ⟨rfl, rfl⟩

/-- What head.Unpack tells of a word's generation. -/
theorem unpack_gen (W : Nat) (hW : W < 18446744073709551616) : ∃ (k m : Int) (g : Bool) (a s : Int) (z : Bool), ∀ w, WT w → Calls Tryd.prog 49 #[.int .u64 (W : Nat)] w fun e w' => e = .returned (.tuple #[.agg #[.int .i64 k, .int .i64 m, .bool g, .int .i64 a, .int .i64 (genW W : Nat), .int .i64 s], .bool z]) ∧ Below w.heap.size w w' := by
  by_cases h : okW W = true
  · obtain ⟨K, M, g, A, N, S, hr, rfl⟩ := Hh.okW_parts hW h
    have e : genW (wordOf K M g.toNat A N S) = N := by
      unfold genW
      rw [if_pos h]
      exact (Hh.word_parts g hr).2.2.2.2.2.1
    rw [e]
    exact ⟨_, _, _, _, _, _, fun w hw => Hh.unpack_word g hr w hw⟩
  · have h' : okW W = false := by simpa using h
    have e : genW W = 0 := by unfold genW; rw [if_neg h]
    rw [e]
    refine ⟨0, 0, false, 0, 0, false, fun w hw => ?_⟩
    have c := Hh.hunpack_any W hW w hw
    rw [Hh.unpV_bad h'] at c
    exact c

/-- A new block of a header's six cells beside the machine's. -/
structure HdZ (w wr : World) (M G P R : Nat) : Prop where
  hd : Hh.IsHd wr R 0 0 false 0 0 0
  ne : R ≠ M ∧ R ≠ G ∧ R ≠ P
  new : w.heap.size ≤ R
theorem HdZ.below {w wr w' : World} {M G P R : Nat} (h : HdZ w wr M G P R) (b : Below wr.heap.size wr w') : HdZ w w' M G P R := ⟨h.hd.below b, h.ne, h.new⟩
theorem HdZ.only {w wr w' : World} {M G P R : Nat} (h : HdZ w wr M G P R) (o : Only M G wr w') : HdZ w w' M G P R := ⟨(o.block R (lt_of_block h.hd) h.ne.1 h.ne.2.1).trans h.hd, h.ne, h.new⟩
theorem HdZ.ofNew {w wr : World} {M G N P : Nat} {X : List Nat} {T : Int} {c : Array Value} {t : TypeId} (is : InA w wr M G N X T P c t) : HdZ w (wr.alloc (.cells #[.int .i64 0, .int .i64 0, .bool false, .int .i64 0, .int .i64 0, .int .i64 0] 48)) M G P wr.heap.size := by
  have h1 := is.mem.lt
  have h2 := lt_of_block is.blk
  exact ⟨Hh.hd_new wr 0 0 false 0 0 0, by omega, is.ch.size⟩
theorem HdZ.ofNewD {w wr : World} {M G N P : Nat} {X : List Nat} {T : Int} {c : Array Value} {t : TypeId} (is : InA w wr M G N X T P c t) : HdZ w (wr.alloc (.cells #[.int .i64 0, .int .i64 0, .bool false, .int .i64 0, .int .i64 0, .int .i64 0] 48)).drew M G P wr.heap.size := by
  have h := HdZ.ofNew is
  exact ⟨h.hd, h.ne, h.new⟩
theorem HdZ.cells {w wr : World} {M G P R : Nat} (h : HdZ w wr M G P R) : (wr.cell? ⟨R, 0, none⟩ = some (.int .i64 0) ∧ wr.cell? ⟨R, 1, none⟩ = some (.int .i64 0) ∧ wr.cell? ⟨R, 2, none⟩ = some (.bool false) ∧ wr.cell? ⟨R, 3, none⟩ = some (.int .i64 0) ∧ wr.cell? ⟨R, 4, none⟩ = some (.int .i64 0) ∧ wr.cell? ⟨R, 5, none⟩ = some (.int .i64 0)) ∧ ∀ i, wr.frozen? ⟨R, i, none⟩ = false := ⟨h.hd.cells, fun i => h.hd.free i⟩
theorem InA.other {w wr : World} {M G N P : Nat} {X : List Nat} {T : Int} {c : Array Value} {t : TypeId} (h : InA w wr M G N X T P c t) {R : Nat} (hR : R ≠ M ∧ R ≠ G ∧ R ≠ P) (hn : w.heap.size ≤ R) (hw : 0 < w.heap.size) (i : Nat) (v : Value) : InA w (wr.setCell ⟨R, i, none⟩ v) M G N X T P c t := by
  have ch : Chg [R] wr (wr.setCell ⟨R, i, none⟩ v) := (Chg.refl [R] wr).setCell (by simp) v
  exact ⟨h.mem.chg ch (by simp; omega) (by simp; omega), WT.chg h.wt ch (by simp; omega), h.len, h.tb, ch.at h.blk (by simp; omega), h.ch.setCell (.inr hn) v, h.hP, h.pos⟩
theorem InA.six {w wr : World} {M G N P : Nat} {X : List Nat} {T : Int} {c : Array Value} {t : TypeId} (h : InA w wr M G N X T P c t) {R : Nat} (hz : HdZ w wr M G P R) (hw : 0 < w.heap.size) (v0 v1 v2 v3 v4 v5 : Value) : InA w ((((((wr.setCell ⟨R, 0, none⟩ v0).setCell ⟨R, 1, none⟩ v1).setCell ⟨R, 2, none⟩ v2).setCell ⟨R, 3, none⟩ v3).setCell ⟨R, 4, none⟩ v4).setCell ⟨R, 5, none⟩ v5) M G N X T P c t :=
  (((((h.other hz.ne hz.new hw 0 v0).other hz.ne hz.new hw 1 v1).other hz.ne hz.new hw 2 v2).other hz.ne hz.new hw 3 v3).other hz.ne hz.new hw 4 v4).other hz.ne hz.new hw 5 v5
theorem HdZ.got {w wr : World} {M G P R : Nat} (hz : HdZ w wr M G P R) (k m : Int) (g : Bool) (a n s : Int) : ((((((wr.setCell ⟨R, 0, none⟩ (.int .i64 k)).setCell ⟨R, 1, none⟩ (.int .i64 m)).setCell ⟨R, 2, none⟩ (.bool g)).setCell ⟨R, 3, none⟩ (.int .i64 a)).setCell ⟨R, 4, none⟩ (.int .i64 n)).setCell ⟨R, 5, none⟩ (.int .i64 s)).cell? ⟨R, 4, none⟩ = some (.int .i64 n) := (Hh.hd_stored hz.hd k m g a n s).cells.2.2.2.2.1

set_option maxRecDepth 100000 in
set_option maxHeartbeats 40000000 in
theorem mk_gen {w : World} {M G N P : Nat} {X : List Nat} {T : Int} {c : Array Value} {t : TypeId} {K : Cf} {m : Mk} (is : InA w w M G N X T P c t) (hm : MkAt c K m) (h1 : m.pc = 1) (hT : T + 1 < 4611686018427387904) {L s : Nat} (hL : L < N) (hs : m.p.sl = (s : Int))
    (c2 : ∀ w, Calls Tryd.prog 39 #[.agg (cs K.S K.a K.C K.D K.g K.k), .int .i64 (s : Nat)] w fun e w' => e = .returned (.int .i64 (L : Nat)) ∧ Below w.heap.size w w') :
    Calls Tryd.prog 20 #[.pointer (some ⟨P, 0, none⟩), .pointer (some ⟨M, 0, none⟩)] w fun r w' => r = .returned (.bool false) ∧ ∃ c', InA w w' M G N X (T + 1) P c' t ∧ MkAt c' K { m with gen := genW (X.getD L 0), pc := 2 } := by
  have htb := is.tb
  have hlen := is.len
  obtain ⟨v, hv⟩ : ∃ v, X.getD L 0 = v := ⟨_, rfl⟩
  have hv64 := is.mem.fits L
  rw [hv] at hv64
  have c0 : ∀ wr, InA w wr M G N X T P c t → Calls Tryd.prog 50 #[.pointer (some ⟨M, 0, none⟩), .int .i64 (L : Nat)] wr fun e w' => e = .returned (.int .u64 (v : Nat)) ∧ InA w w' M G N X (T + 1) P c t ∧ Only M G wr w' := fun wr x =>
    (loadX x.mem (by rw [hlen]; exact hL) htb hv).mono fun e w' ⟨h1, h2, h3⟩ => ⟨h1, x.only h2 h3 hlen (by omega), h3⟩
  rw [hv]
  obtain ⟨k', m', g', a', s', z', c3⟩ := unpack_gen v hv64
  have hrc : ∀ wr X T, InA w wr M G N X T P c t → _ := fun wr X T x => hm.rdC x
  rw [hs] at hrc
  have l23 := is.cell hm.pc
  rw [h1] at l23
  have n1 := hm.put_gen (genW v)
  have n2 := n1.put_pc 2
  have hgf : ∀ wr X T, InA w wr M G N X T P c t → wr.cell? ⟨P, 24, none⟩ = some (.int .i64 (m.gen : Nat)) ∧ wr.frozen? ⟨P, 24, none⟩ = false := fun wr X T x => ⟨x.cell hm.gen, x.free 24⟩
  have hPl := lt_of_block is.blk
  clear hL hs hm hv hv64
  generalize genW v = gv at *
  have hML := is.mem.lt
  have HC : Hid (∀ wr X T, InA w wr M G N X T P c t → _) := hrc
  have HG : Hid (∀ wr X T, InA w wr M G N X T P c t → _) := hgf
  have N1 : Hid _ := n1
  have N2 : Hid _ := n2
  clear hrc hgf n1 n2
  go_enter Tryd.func20, Tryd.ntmps20
  go_upto_region 7 with fail
  have is0 := is
  have hws : Hid (0 < w.heap.size) := show 0 < w.heap.size by omega
  replace is := is.drew
  clear l23
  have hS0 := HC.out _ _ _ is
  refine wp_region_held_drew (S := fun wr => wr.cell? ⟨P, 2, none⟩ = some (.int .i64 (K.S : Nat)) ∧ wr.cell? ⟨P, 3, none⟩ = some (.int .i64 K.a) ∧ wr.cell? ⟨P, 4, none⟩ = some (.int .i64 (K.C : Nat)) ∧ wr.cell? ⟨P, 5, none⟩ = some (.int .i64 (K.D : Nat)) ∧ wr.cell? ⟨P, 6, none⟩ = some (.int .i64 K.g) ∧ wr.cell? ⟨P, 7, none⟩ = some (.int .i64 K.k) ∧ wr.cell? ⟨P, 12, none⟩ = some (.int .i64 (s : Nat))) (by kernel_rfl) hS0 (fun hS1 => ?_)
  clear hS0
  refine wpAnyH_take (i := 0) (oi := { dst := some 21, op := Go.Op.move (Go.Operand.tmp 1), type := 28, pos := "arena.go:100", after := #[], guard := none }) (v := .pointer (some ⟨M, 0, none⟩)) rfl (by kernel_rfl) (by kernel_rfl) (by kernel_rfl) (fun _ _ _ h => h) (Or.inl ⟨by rfl, fun w hSw => by (try dsimp only at hSw); go_simp⟩) hS1 ?_
  simp only [Act.put, List.setIfInBounds_toArray, List.set_cons_zero, List.set_cons_succ]
  refine wpAnyH_take (i := 1) (oi := { dst := some 22, op := Go.Op.move (Go.Operand.tmp 0), type := 38, pos := "arena.go:100", after := #[], guard := none }) (v := .pointer (some ⟨P, 0, none⟩)) rfl (by kernel_rfl) (by kernel_rfl) (by kernel_rfl) (fun _ _ _ h => h) (Or.inl ⟨by rfl, fun w hSw => by (try dsimp only at hSw); go_simp⟩) hS1 ?_
  simp only [Act.put, List.setIfInBounds_toArray, List.set_cons_zero, List.set_cons_succ]
  refine wpAnyH_take (i := 2) (oi := { dst := some 23, op := Go.Op.nilCheck (Go.Operand.tmp 22), type := 0, pos := "arena.go:100", after := #[{ on := 1, ground := Go.Ground.data }], guard := none }) (v := .pointer (some ⟨P, 0, none⟩)) rfl (by kernel_rfl) (by kernel_rfl) (by kernel_rfl) (fun _ _ _ h => h) (Or.inl ⟨by rfl, fun w hSw => by (try dsimp only at hSw); go_simp⟩) hS1 ?_
  simp only [Act.put, List.setIfInBounds_toArray, List.set_cons_zero, List.set_cons_succ]
  refine wpAnyH_take (i := 3) (oi := { dst := some 24, op := Go.Op.fieldAddr 60 (Go.Operand.tmp 23) 2, type := 0, pos := "arena.go:100", after := #[{ on := 2, ground := Go.Ground.data }], guard := none }) (v := .pointer (some ⟨P, 2, none⟩)) rfl (by kernel_rfl) (by kernel_rfl) (by kernel_rfl) (fun _ _ _ h => h) (Or.inl ⟨by rfl, fun w hSw => by (try dsimp only at hSw); go_simp⟩) hS1 ?_
  simp only [Act.put, List.setIfInBounds_toArray, List.set_cons_zero, List.set_cons_succ]
  refine wpAnyH_take (i := 4) (oi := { dst := some 25, op := Go.Op.load 23 (Go.Operand.tmp 24), type := 23, pos := "arena.go:100", after := #[{ on := 3, ground := Go.Ground.data }], guard := none }) (v := .agg #[.int .i64 (K.S : Nat), .int .i64 K.a, .int .i64 (K.C : Nat), .int .i64 (K.D : Nat), .int .i64 K.g, .int .i64 K.k]) rfl (by kernel_rfl) (by kernel_rfl) (by kernel_rfl) (fun _ _ _ h => h) (Or.inl ⟨by rfl, fun w hSw => by (try dsimp only at hSw); go_simp⟩) hS1 ?_
  simp only [Act.put, List.setIfInBounds_toArray, List.set_cons_zero, List.set_cons_succ]
  refine wpAnyH_take (i := 5) (oi := { dst := some 26, op := Go.Op.move (Go.Operand.tmp 0), type := 38, pos := "arena.go:100", after := #[], guard := none }) (v := .pointer (some ⟨P, 0, none⟩)) rfl (by kernel_rfl) (by kernel_rfl) (by kernel_rfl) (fun _ _ _ h => h) (Or.inl ⟨by rfl, fun w hSw => by (try dsimp only at hSw); go_simp⟩) hS1 ?_
  simp only [Act.put, List.setIfInBounds_toArray, List.set_cons_zero, List.set_cons_succ]
  refine wpAnyH_take (i := 6) (oi := { dst := some 27, op := Go.Op.nilCheck (Go.Operand.tmp 26), type := 0, pos := "arena.go:100", after := #[{ on := 5, ground := Go.Ground.data }], guard := none }) (v := .pointer (some ⟨P, 0, none⟩)) rfl (by kernel_rfl) (by kernel_rfl) (by kernel_rfl) (fun _ _ _ h => h) (Or.inl ⟨by rfl, fun w hSw => by (try dsimp only at hSw); go_simp⟩) hS1 ?_
  simp only [Act.put, List.setIfInBounds_toArray, List.set_cons_zero, List.set_cons_succ]
  refine wpAnyH_take (i := 7) (oi := { dst := some 28, op := Go.Op.fieldAddr 60 (Go.Operand.tmp 27) 7, type := 0, pos := "arena.go:100", after := #[{ on := 6, ground := Go.Ground.data }], guard := none }) (v := .pointer (some ⟨P, 12, none⟩)) rfl (by kernel_rfl) (by kernel_rfl) (by kernel_rfl) (fun _ _ _ h => h) (Or.inl ⟨by rfl, fun w hSw => by (try dsimp only at hSw); go_simp⟩) hS1 ?_
  simp only [Act.put, List.setIfInBounds_toArray, List.set_cons_zero, List.set_cons_succ]
  refine wpAnyH_take (i := 8) (oi := { dst := some 29, op := Go.Op.fieldAddr 58 (Go.Operand.tmp 28) 0, type := 0, pos := "arena.go:100", after := #[{ on := 7, ground := Go.Ground.data }], guard := none }) (v := .pointer (some ⟨P, 12, none⟩)) rfl (by kernel_rfl) (by kernel_rfl) (by kernel_rfl) (fun _ _ _ h => h) (Or.inl ⟨by rfl, fun w hSw => by (try dsimp only at hSw); go_simp⟩) hS1 ?_
  simp only [Act.put, List.setIfInBounds_toArray, List.set_cons_zero, List.set_cons_succ]
  refine wpAnyH_take (i := 9) (oi := { dst := some 30, op := Go.Op.load 3 (Go.Operand.tmp 29), type := 3, pos := "arena.go:100", after := #[{ on := 8, ground := Go.Ground.data }], guard := none }) (v := .int .i64 (s : Nat)) rfl (by kernel_rfl) (by kernel_rfl) (by kernel_rfl) (fun _ _ _ h => h) (Or.inl ⟨by rfl, fun w hSw => by (try dsimp only at hSw); go_simp⟩) hS1 ?_
  simp only [Act.put, List.setIfInBounds_toArray, List.set_cons_zero, List.set_cons_succ]
  refine wpAnyH_ready (rs := [10, 16]) (by kernel_rfl) (by simp) (AllReadyH.cons (o := { dst := some 31, op := Go.Op.call { callee := Go.Callee.value (Go.Operand.func 39), args := #[Go.Operand.tmp 25, Go.Operand.tmp 30], argTypes := #[23, 3] }, type := 3, pos := "arena.go:100", after := #[{ on := 4, ground := Go.Ground.data }, { on := 9, ground := Go.Ground.data }], guard := none }) rfl (fun K hK => ?_) (AllReadyH.cons (o := { dst := some 5, op := Go.Op.alloc 48, type := 0, pos := "arena.go:100", after := #[], guard := none }) rfl (fun K hK => ?_) AllReadyH.nil))
  · go_simp
    go_at_call 39
    with_reducible refine (c2 _).mono ?_
    rintro e w4 ⟨rfl, b⟩
    (try simp only [])
    replace is := is.below b
    clear b
    refine hK.out _ _ (HC.out _ _ _ is) (fun hS1 => ?_)
    (try simp only [Act.put, List.setIfInBounds_toArray, List.set_cons_zero, List.set_cons_succ])
    clear hK K
    refine wpAnyH_ready (rs := [11, 16]) (by kernel_rfl) (by simp) (AllReadyH.cons (o := { dst := some 32, op := Go.Op.call { callee := Go.Callee.value (Go.Operand.func 50), args := #[Go.Operand.tmp 21, Go.Operand.tmp 31], argTypes := #[28, 3] }, type := 35, pos := "arena.go:100", after := #[{ on := 0, ground := Go.Ground.data }, { on := 10, ground := Go.Ground.data }, { on := 10, ground := Go.Ground.chain }], guard := none }) rfl (fun K hK => ?_) (AllReadyH.cons (o := { dst := some 5, op := Go.Op.alloc 48, type := 0, pos := "arena.go:100", after := #[], guard := none }) rfl (fun K hK => ?_) AllReadyH.nil))
    · go_simp
      go_at_call 50
      with_reducible refine (c0 _ is).mono ?_
      rintro e w5 ⟨rfl, i1, ho⟩
      (try simp only [])
      clear is
      have is := i1
      clear i1
      clear ho
      refine hK.out _ _ (HC.out _ _ _ is) (fun hS1 => ?_)
      (try simp only [Act.put, List.setIfInBounds_toArray, List.set_cons_zero, List.set_cons_succ])
      clear hK K
      refine wpAnyH_ready (rs := [12, 16]) (by kernel_rfl) (by simp) (AllReadyH.cons (o := { dst := some 33, op := Go.Op.call { callee := Go.Callee.value (Go.Operand.func 49), args := #[Go.Operand.tmp 32], argTypes := #[35] }, type := 49, pos := "arena.go:100", after := #[{ on := 11, ground := Go.Ground.data }, { on := 11, ground := Go.Ground.chain }], guard := none }) rfl (fun K hK => ?_) (AllReadyH.cons (o := { dst := some 5, op := Go.Op.alloc 48, type := 0, pos := "arena.go:100", after := #[], guard := none }) rfl (fun K hK => ?_) AllReadyH.nil))
      · go_simp
        go_at_call 49
        with_reducible refine (c3 _ is.wt).mono ?_
        rintro e w6 ⟨rfl, b⟩
        (try simp only [])
        replace is := is.below b
        clear b
        refine hK.out _ _ (HC.out _ _ _ is) (fun hS1 => ?_)
        (try simp only [Act.put, List.setIfInBounds_toArray, List.set_cons_zero, List.set_cons_succ])
        clear hK K
        refine wpAnyH_take (i := 13) (oi := { dst := some 20, op := Go.Op.move (Go.Operand.tmp 33), type := 49, pos := "arena.go:100", after := #[{ on := 12, ground := Go.Ground.data }], guard := none }) (v := .tuple #[.agg #[.int .i64 k', .int .i64 m', .bool g', .int .i64 a', .int .i64 (gv : Nat), .int .i64 s'], .bool z']) rfl (by kernel_rfl) (by kernel_rfl) (by kernel_rfl) (fun _ _ _ h => h) (Or.inl ⟨by rfl, fun w hSw => by (try dsimp only at hSw); go_simp⟩) hS1 ?_
        simp only [Act.put, List.setIfInBounds_toArray, List.set_cons_zero, List.set_cons_succ]
        refine wpAnyH_take (i := 14) (oi := { dst := some 34, op := Go.Op.extract (Go.Operand.tmp 20) 0, type := 48, pos := "arena.go:100", after := #[{ on := 13, ground := Go.Ground.data }], guard := none }) (v := .agg #[.int .i64 k', .int .i64 m', .bool g', .int .i64 a', .int .i64 (gv : Nat), .int .i64 s']) rfl (by kernel_rfl) (by kernel_rfl) (by kernel_rfl) (fun _ _ _ h => h) (Or.inl ⟨by rfl, fun w hSw => by (try dsimp only at hSw); go_simp⟩) hS1 ?_
        simp only [Act.put, List.setIfInBounds_toArray, List.set_cons_zero, List.set_cons_succ]
        refine wpAnyH_take (i := 15) (oi := { dst := some 35, op := Go.Op.extract (Go.Operand.tmp 20) 1, type := 4, pos := "arena.go:100", after := #[{ on := 13, ground := Go.Ground.data }, { on := 17, ground := Go.Ground.gcOnly Go.Departure.lateStores }], guard := none }) (v := .bool z') rfl (by kernel_rfl) (by kernel_rfl) (by kernel_rfl) (fun _ _ _ h => h) (Or.inl ⟨by rfl, fun w hSw => by (try dsimp only at hSw); go_simp⟩) hS1 ?_
        simp only [Act.put, List.setIfInBounds_toArray, List.set_cons_zero, List.set_cons_succ]
        refine wpAnyH_ready (rs := [16]) (by kernel_rfl) (by simp) (AllReadyH.cons (o := { dst := some 5, op := Go.Op.alloc 48, type := 0, pos := "arena.go:100", after := #[], guard := none }) rfl (fun K hK => ?_) AllReadyH.nil)
        go_simp
        have hz : Hid _ := HdZ.ofNew is
        replace is := is.below (alloc_below _ (.cells #[.int .i64 0, .int .i64 0, .bool false, .int .i64 0, .int .i64 0, .int .i64 0] 48))
        refine hK.out _ _ (HC.out _ _ _ is) (fun hS1 => ?_)
        (try simp only [Act.put, List.setIfInBounds_toArray, List.set_cons_zero, List.set_cons_succ])
        clear hK K
        generalize w6.heap.size = R at hz ⊢
        generalize w6.alloc (.cells #[.int .i64 0, .int .i64 0, .bool false, .int .i64 0, .int .i64 0, .int .i64 0] 48) = wA at *
        refine wpAnyH_ready (rs := [17]) (by kernel_rfl) (by simp) (AllReadyH.cons (o := { dst := none, op := Go.Op.store 48 (Go.Operand.tmp 5) (Go.Operand.tmp 34), type := 0, pos := "arena.go:100", after := #[{ on := 16, ground := Go.Ground.data }, { on := 14, ground := Go.Ground.data }, { on := 12, ground := Go.Ground.chain }, { on := 0, ground := Go.Ground.phase }, { on := 1, ground := Go.Ground.phase }, { on := 2, ground := Go.Ground.phase }, { on := 3, ground := Go.Ground.phase }, { on := 4, ground := Go.Ground.phase }, { on := 5, ground := Go.Ground.phase }, { on := 6, ground := Go.Ground.phase }, { on := 7, ground := Go.Ground.phase }, { on := 8, ground := Go.Ground.phase }, { on := 9, ground := Go.Ground.phase }, { on := 10, ground := Go.Ground.phase }, { on := 11, ground := Go.Ground.phase }, { on := 12, ground := Go.Ground.phase }, { on := 13, ground := Go.Ground.phase }, { on := 14, ground := Go.Ground.phase }, { on := 15, ground := Go.Ground.textOnly Go.Departure.lateStores }, { on := 16, ground := Go.Ground.phase }], guard := none }) rfl (fun K hK => ?_) AllReadyH.nil)
        obtain ⟨⟨q0, q1, q2, q3, q4, q5⟩, y⟩ := hz.out.cells
        have y0 := y 0
        have y1 := y 1
        have y2 := y 2
        have y3 := y 3
        have y4 := y 4
        have y5 := y 5
        clear y
        go_simp
        replace is := is.six hz.out hws.out (.int .i64 k') (.int .i64 m') (.bool g') (.int .i64 a') (.int .i64 (gv : Nat)) (.int .i64 s')
        have hg4 := hz.out.got k' m' g' a' gv s'
        refine hK.out _ _ (HC.out _ _ _ is) (fun hS1 => ?_)
        (try simp only [Act.put, List.setIfInBounds_toArray, List.set_cons_zero, List.set_cons_succ])
        clear hK K q0 q1 q2 q3 q4 q5 y0 y1 y2 y3 y4 y5 hz
        refine wpAnyH_take (i := 18) (oi := { dst := some 6, op := Go.Op.assign (Go.Operand.tmp 35), type := 4, pos := "arena.go:100", after := #[{ on := 15, ground := Go.Ground.data }, { on := 17, ground := Go.Ground.chain }, { on := 0, ground := Go.Ground.phase }, { on := 1, ground := Go.Ground.phase }, { on := 2, ground := Go.Ground.phase }, { on := 3, ground := Go.Ground.phase }, { on := 4, ground := Go.Ground.phase }, { on := 5, ground := Go.Ground.phase }, { on := 6, ground := Go.Ground.phase }, { on := 7, ground := Go.Ground.phase }, { on := 8, ground := Go.Ground.phase }, { on := 9, ground := Go.Ground.phase }, { on := 10, ground := Go.Ground.phase }, { on := 11, ground := Go.Ground.phase }, { on := 12, ground := Go.Ground.phase }, { on := 13, ground := Go.Ground.phase }, { on := 14, ground := Go.Ground.phase }, { on := 15, ground := Go.Ground.phase }, { on := 16, ground := Go.Ground.phase }, { on := 17, ground := Go.Ground.phase }], guard := none }) (v := .bool z') rfl (by kernel_rfl) (by kernel_rfl) (by kernel_rfl) (fun _ _ _ h => h) (Or.inl ⟨by rfl, fun w hSw => by (try dsimp only at hSw); go_simp⟩) hS1 ?_
        simp only [Act.put, List.setIfInBounds_toArray, List.set_cons_zero, List.set_cons_succ]
        refine wpAnyH_done (by kernel_rfl) ?_ _
        clear hS1
        generalize (((((((wA.setCell ⟨R, 0, none⟩ (.int .i64 k')).setCell ⟨R, 1, none⟩ (.int .i64 m')).setCell ⟨R, 2, none⟩ (.bool g')).setCell ⟨R, 3, none⟩ (.int .i64 a')).setCell ⟨R, 4, none⟩ (.int .i64 (gv : Nat))).setCell ⟨R, 5, none⟩ (.int .i64 s'))) = wf at *
        obtain ⟨k24, f24⟩ := HG.out _ _ _ is
        replace is := is.set 24 (.int .i64 (gv : Nat))
        go_upto_region 9 with fail
        clear k24 f24 hg4
        generalize wf.setCell ⟨P, 24, none⟩ (.int .i64 (gv : Nat)) = wg at *
        have k23 := is.cell N1.out.pc
        have f23 := is.free 23
        replace is := is.set 23 (.int .i64 2)
        go_upto_region 14 with fail
        clear k23 f23
        generalize wg.setCell ⟨P, 23, none⟩ (.int .i64 2) = wh at *
        have k23 := is.cell N2.out.pc
        simp only at k23
        go_wp2
        go_ret
        exact ⟨rfl, _, is, N2.out⟩
      · go_simp
        have hz : Hid _ := HdZ.ofNew is
        replace is := is.below (alloc_below _ (.cells #[.int .i64 0, .int .i64 0, .bool false, .int .i64 0, .int .i64 0, .int .i64 0] 48))
        refine hK.out _ _ (HC.out _ _ _ is) (fun hS1 => ?_)
        (try simp only [Act.put, List.setIfInBounds_toArray, List.set_cons_zero, List.set_cons_succ])
        clear hK K
        generalize w5.heap.size = R at hz ⊢
        generalize w5.alloc (.cells #[.int .i64 0, .int .i64 0, .bool false, .int .i64 0, .int .i64 0, .int .i64 0] 48) = wA at *
        refine wpAnyH_ready (rs := [12]) (by kernel_rfl) (by simp) (AllReadyH.cons (o := { dst := some 33, op := Go.Op.call { callee := Go.Callee.value (Go.Operand.func 49), args := #[Go.Operand.tmp 32], argTypes := #[35] }, type := 49, pos := "arena.go:100", after := #[{ on := 11, ground := Go.Ground.data }, { on := 11, ground := Go.Ground.chain }], guard := none }) rfl (fun K hK => ?_) AllReadyH.nil)
        go_simp
        go_at_call 49
        with_reducible refine (c3 _ is.wt).mono ?_
        rintro e w6 ⟨rfl, b⟩
        (try simp only [])
        replace is := is.below b
        replace hz : Hid _ := hz.out.below b
        clear b
        refine hK.out _ _ (HC.out _ _ _ is) (fun hS1 => ?_)
        (try simp only [Act.put, List.setIfInBounds_toArray, List.set_cons_zero, List.set_cons_succ])
        clear hK K
        refine wpAnyH_take (i := 13) (oi := { dst := some 20, op := Go.Op.move (Go.Operand.tmp 33), type := 49, pos := "arena.go:100", after := #[{ on := 12, ground := Go.Ground.data }], guard := none }) (v := .tuple #[.agg #[.int .i64 k', .int .i64 m', .bool g', .int .i64 a', .int .i64 (gv : Nat), .int .i64 s'], .bool z']) rfl (by kernel_rfl) (by kernel_rfl) (by kernel_rfl) (fun _ _ _ h => h) (Or.inl ⟨by rfl, fun w hSw => by (try dsimp only at hSw); go_simp⟩) hS1 ?_
        simp only [Act.put, List.setIfInBounds_toArray, List.set_cons_zero, List.set_cons_succ]
        refine wpAnyH_take (i := 14) (oi := { dst := some 34, op := Go.Op.extract (Go.Operand.tmp 20) 0, type := 48, pos := "arena.go:100", after := #[{ on := 13, ground := Go.Ground.data }], guard := none }) (v := .agg #[.int .i64 k', .int .i64 m', .bool g', .int .i64 a', .int .i64 (gv : Nat), .int .i64 s']) rfl (by kernel_rfl) (by kernel_rfl) (by kernel_rfl) (fun _ _ _ h => h) (Or.inl ⟨by rfl, fun w hSw => by (try dsimp only at hSw); go_simp⟩) hS1 ?_
        simp only [Act.put, List.setIfInBounds_toArray, List.set_cons_zero, List.set_cons_succ]
        refine wpAnyH_take (i := 15) (oi := { dst := some 35, op := Go.Op.extract (Go.Operand.tmp 20) 1, type := 4, pos := "arena.go:100", after := #[{ on := 13, ground := Go.Ground.data }, { on := 17, ground := Go.Ground.gcOnly Go.Departure.lateStores }], guard := none }) (v := .bool z') rfl (by kernel_rfl) (by kernel_rfl) (by kernel_rfl) (fun _ _ _ h => h) (Or.inl ⟨by rfl, fun w hSw => by (try dsimp only at hSw); go_simp⟩) hS1 ?_
        simp only [Act.put, List.setIfInBounds_toArray, List.set_cons_zero, List.set_cons_succ]
        refine wpAnyH_ready (rs := [17]) (by kernel_rfl) (by simp) (AllReadyH.cons (o := { dst := none, op := Go.Op.store 48 (Go.Operand.tmp 5) (Go.Operand.tmp 34), type := 0, pos := "arena.go:100", after := #[{ on := 16, ground := Go.Ground.data }, { on := 14, ground := Go.Ground.data }, { on := 12, ground := Go.Ground.chain }, { on := 0, ground := Go.Ground.phase }, { on := 1, ground := Go.Ground.phase }, { on := 2, ground := Go.Ground.phase }, { on := 3, ground := Go.Ground.phase }, { on := 4, ground := Go.Ground.phase }, { on := 5, ground := Go.Ground.phase }, { on := 6, ground := Go.Ground.phase }, { on := 7, ground := Go.Ground.phase }, { on := 8, ground := Go.Ground.phase }, { on := 9, ground := Go.Ground.phase }, { on := 10, ground := Go.Ground.phase }, { on := 11, ground := Go.Ground.phase }, { on := 12, ground := Go.Ground.phase }, { on := 13, ground := Go.Ground.phase }, { on := 14, ground := Go.Ground.phase }, { on := 15, ground := Go.Ground.textOnly Go.Departure.lateStores }, { on := 16, ground := Go.Ground.phase }], guard := none }) rfl (fun K hK => ?_) AllReadyH.nil)
        obtain ⟨⟨q0, q1, q2, q3, q4, q5⟩, y⟩ := hz.out.cells
        have y0 := y 0
        have y1 := y 1
        have y2 := y 2
        have y3 := y 3
        have y4 := y 4
        have y5 := y 5
        clear y
        go_simp
        replace is := is.six hz.out hws.out (.int .i64 k') (.int .i64 m') (.bool g') (.int .i64 a') (.int .i64 (gv : Nat)) (.int .i64 s')
        have hg4 := hz.out.got k' m' g' a' gv s'
        refine hK.out _ _ (HC.out _ _ _ is) (fun hS1 => ?_)
        (try simp only [Act.put, List.setIfInBounds_toArray, List.set_cons_zero, List.set_cons_succ])
        clear hK K q0 q1 q2 q3 q4 q5 y0 y1 y2 y3 y4 y5 hz
        refine wpAnyH_take (i := 18) (oi := { dst := some 6, op := Go.Op.assign (Go.Operand.tmp 35), type := 4, pos := "arena.go:100", after := #[{ on := 15, ground := Go.Ground.data }, { on := 17, ground := Go.Ground.chain }, { on := 0, ground := Go.Ground.phase }, { on := 1, ground := Go.Ground.phase }, { on := 2, ground := Go.Ground.phase }, { on := 3, ground := Go.Ground.phase }, { on := 4, ground := Go.Ground.phase }, { on := 5, ground := Go.Ground.phase }, { on := 6, ground := Go.Ground.phase }, { on := 7, ground := Go.Ground.phase }, { on := 8, ground := Go.Ground.phase }, { on := 9, ground := Go.Ground.phase }, { on := 10, ground := Go.Ground.phase }, { on := 11, ground := Go.Ground.phase }, { on := 12, ground := Go.Ground.phase }, { on := 13, ground := Go.Ground.phase }, { on := 14, ground := Go.Ground.phase }, { on := 15, ground := Go.Ground.phase }, { on := 16, ground := Go.Ground.phase }, { on := 17, ground := Go.Ground.phase }], guard := none }) (v := .bool z') rfl (by kernel_rfl) (by kernel_rfl) (by kernel_rfl) (fun _ _ _ h => h) (Or.inl ⟨by rfl, fun w hSw => by (try dsimp only at hSw); go_simp⟩) hS1 ?_
        simp only [Act.put, List.setIfInBounds_toArray, List.set_cons_zero, List.set_cons_succ]
        refine wpAnyH_done (by kernel_rfl) ?_ _
        clear hS1
        generalize (((((((w6.setCell ⟨R, 0, none⟩ (.int .i64 k')).setCell ⟨R, 1, none⟩ (.int .i64 m')).setCell ⟨R, 2, none⟩ (.bool g')).setCell ⟨R, 3, none⟩ (.int .i64 a')).setCell ⟨R, 4, none⟩ (.int .i64 (gv : Nat))).setCell ⟨R, 5, none⟩ (.int .i64 s'))) = wf at *
        obtain ⟨k24, f24⟩ := HG.out _ _ _ is
        replace is := is.set 24 (.int .i64 (gv : Nat))
        go_upto_region 9 with fail
        clear k24 f24 hg4
        generalize wf.setCell ⟨P, 24, none⟩ (.int .i64 (gv : Nat)) = wg at *
        have k23 := is.cell N1.out.pc
        have f23 := is.free 23
        replace is := is.set 23 (.int .i64 2)
        go_upto_region 14 with fail
        clear k23 f23
        generalize wg.setCell ⟨P, 23, none⟩ (.int .i64 2) = wh at *
        have k23 := is.cell N2.out.pc
        simp only at k23
        go_wp2
        go_ret
        exact ⟨rfl, _, is, N2.out⟩
    · go_simp
      have hz : Hid _ := HdZ.ofNew is
      replace is := is.below (alloc_below _ (.cells #[.int .i64 0, .int .i64 0, .bool false, .int .i64 0, .int .i64 0, .int .i64 0] 48))
      refine hK.out _ _ (HC.out _ _ _ is) (fun hS1 => ?_)
      (try simp only [Act.put, List.setIfInBounds_toArray, List.set_cons_zero, List.set_cons_succ])
      clear hK K
      generalize w4.heap.size = R at hz ⊢
      generalize w4.alloc (.cells #[.int .i64 0, .int .i64 0, .bool false, .int .i64 0, .int .i64 0, .int .i64 0] 48) = wA at *
      refine wpAnyH_ready (rs := [11]) (by kernel_rfl) (by simp) (AllReadyH.cons (o := { dst := some 32, op := Go.Op.call { callee := Go.Callee.value (Go.Operand.func 50), args := #[Go.Operand.tmp 21, Go.Operand.tmp 31], argTypes := #[28, 3] }, type := 35, pos := "arena.go:100", after := #[{ on := 0, ground := Go.Ground.data }, { on := 10, ground := Go.Ground.data }, { on := 10, ground := Go.Ground.chain }], guard := none }) rfl (fun K hK => ?_) AllReadyH.nil)
      go_simp
      go_at_call 50
      with_reducible refine (c0 _ is).mono ?_
      rintro e w5 ⟨rfl, i1, ho⟩
      (try simp only [])
      clear is
      have is := i1
      clear i1
      replace hz : Hid _ := hz.out.only ho
      clear ho
      refine hK.out _ _ (HC.out _ _ _ is) (fun hS1 => ?_)
      (try simp only [Act.put, List.setIfInBounds_toArray, List.set_cons_zero, List.set_cons_succ])
      clear hK K
      refine wpAnyH_ready (rs := [12]) (by kernel_rfl) (by simp) (AllReadyH.cons (o := { dst := some 33, op := Go.Op.call { callee := Go.Callee.value (Go.Operand.func 49), args := #[Go.Operand.tmp 32], argTypes := #[35] }, type := 49, pos := "arena.go:100", after := #[{ on := 11, ground := Go.Ground.data }, { on := 11, ground := Go.Ground.chain }], guard := none }) rfl (fun K hK => ?_) AllReadyH.nil)
      go_simp
      go_at_call 49
      with_reducible refine (c3 _ is.wt).mono ?_
      rintro e w6 ⟨rfl, b⟩
      (try simp only [])
      replace is := is.below b
      replace hz : Hid _ := hz.out.below b
      clear b
      refine hK.out _ _ (HC.out _ _ _ is) (fun hS1 => ?_)
      (try simp only [Act.put, List.setIfInBounds_toArray, List.set_cons_zero, List.set_cons_succ])
      clear hK K
      refine wpAnyH_take (i := 13) (oi := { dst := some 20, op := Go.Op.move (Go.Operand.tmp 33), type := 49, pos := "arena.go:100", after := #[{ on := 12, ground := Go.Ground.data }], guard := none }) (v := .tuple #[.agg #[.int .i64 k', .int .i64 m', .bool g', .int .i64 a', .int .i64 (gv : Nat), .int .i64 s'], .bool z']) rfl (by kernel_rfl) (by kernel_rfl) (by kernel_rfl) (fun _ _ _ h => h) (Or.inl ⟨by rfl, fun w hSw => by (try dsimp only at hSw); go_simp⟩) hS1 ?_
      simp only [Act.put, List.setIfInBounds_toArray, List.set_cons_zero, List.set_cons_succ]
      refine wpAnyH_take (i := 14) (oi := { dst := some 34, op := Go.Op.extract (Go.Operand.tmp 20) 0, type := 48, pos := "arena.go:100", after := #[{ on := 13, ground := Go.Ground.data }], guard := none }) (v := .agg #[.int .i64 k', .int .i64 m', .bool g', .int .i64 a', .int .i64 (gv : Nat), .int .i64 s']) rfl (by kernel_rfl) (by kernel_rfl) (by kernel_rfl) (fun _ _ _ h => h) (Or.inl ⟨by rfl, fun w hSw => by (try dsimp only at hSw); go_simp⟩) hS1 ?_
      simp only [Act.put, List.setIfInBounds_toArray, List.set_cons_zero, List.set_cons_succ]
      refine wpAnyH_take (i := 15) (oi := { dst := some 35, op := Go.Op.extract (Go.Operand.tmp 20) 1, type := 4, pos := "arena.go:100", after := #[{ on := 13, ground := Go.Ground.data }, { on := 17, ground := Go.Ground.gcOnly Go.Departure.lateStores }], guard := none }) (v := .bool z') rfl (by kernel_rfl) (by kernel_rfl) (by kernel_rfl) (fun _ _ _ h => h) (Or.inl ⟨by rfl, fun w hSw => by (try dsimp only at hSw); go_simp⟩) hS1 ?_
      simp only [Act.put, List.setIfInBounds_toArray, List.set_cons_zero, List.set_cons_succ]
      refine wpAnyH_ready (rs := [17]) (by kernel_rfl) (by simp) (AllReadyH.cons (o := { dst := none, op := Go.Op.store 48 (Go.Operand.tmp 5) (Go.Operand.tmp 34), type := 0, pos := "arena.go:100", after := #[{ on := 16, ground := Go.Ground.data }, { on := 14, ground := Go.Ground.data }, { on := 12, ground := Go.Ground.chain }, { on := 0, ground := Go.Ground.phase }, { on := 1, ground := Go.Ground.phase }, { on := 2, ground := Go.Ground.phase }, { on := 3, ground := Go.Ground.phase }, { on := 4, ground := Go.Ground.phase }, { on := 5, ground := Go.Ground.phase }, { on := 6, ground := Go.Ground.phase }, { on := 7, ground := Go.Ground.phase }, { on := 8, ground := Go.Ground.phase }, { on := 9, ground := Go.Ground.phase }, { on := 10, ground := Go.Ground.phase }, { on := 11, ground := Go.Ground.phase }, { on := 12, ground := Go.Ground.phase }, { on := 13, ground := Go.Ground.phase }, { on := 14, ground := Go.Ground.phase }, { on := 15, ground := Go.Ground.textOnly Go.Departure.lateStores }, { on := 16, ground := Go.Ground.phase }], guard := none }) rfl (fun K hK => ?_) AllReadyH.nil)
      obtain ⟨⟨q0, q1, q2, q3, q4, q5⟩, y⟩ := hz.out.cells
      have y0 := y 0
      have y1 := y 1
      have y2 := y 2
      have y3 := y 3
      have y4 := y 4
      have y5 := y 5
      clear y
      go_simp
      replace is := is.six hz.out hws.out (.int .i64 k') (.int .i64 m') (.bool g') (.int .i64 a') (.int .i64 (gv : Nat)) (.int .i64 s')
      have hg4 := hz.out.got k' m' g' a' gv s'
      refine hK.out _ _ (HC.out _ _ _ is) (fun hS1 => ?_)
      (try simp only [Act.put, List.setIfInBounds_toArray, List.set_cons_zero, List.set_cons_succ])
      clear hK K q0 q1 q2 q3 q4 q5 y0 y1 y2 y3 y4 y5 hz
      refine wpAnyH_take (i := 18) (oi := { dst := some 6, op := Go.Op.assign (Go.Operand.tmp 35), type := 4, pos := "arena.go:100", after := #[{ on := 15, ground := Go.Ground.data }, { on := 17, ground := Go.Ground.chain }, { on := 0, ground := Go.Ground.phase }, { on := 1, ground := Go.Ground.phase }, { on := 2, ground := Go.Ground.phase }, { on := 3, ground := Go.Ground.phase }, { on := 4, ground := Go.Ground.phase }, { on := 5, ground := Go.Ground.phase }, { on := 6, ground := Go.Ground.phase }, { on := 7, ground := Go.Ground.phase }, { on := 8, ground := Go.Ground.phase }, { on := 9, ground := Go.Ground.phase }, { on := 10, ground := Go.Ground.phase }, { on := 11, ground := Go.Ground.phase }, { on := 12, ground := Go.Ground.phase }, { on := 13, ground := Go.Ground.phase }, { on := 14, ground := Go.Ground.phase }, { on := 15, ground := Go.Ground.phase }, { on := 16, ground := Go.Ground.phase }, { on := 17, ground := Go.Ground.phase }], guard := none }) (v := .bool z') rfl (by kernel_rfl) (by kernel_rfl) (by kernel_rfl) (fun _ _ _ h => h) (Or.inl ⟨by rfl, fun w hSw => by (try dsimp only at hSw); go_simp⟩) hS1 ?_
      simp only [Act.put, List.setIfInBounds_toArray, List.set_cons_zero, List.set_cons_succ]
      refine wpAnyH_done (by kernel_rfl) ?_ _
      clear hS1
      generalize (((((((w6.setCell ⟨R, 0, none⟩ (.int .i64 k')).setCell ⟨R, 1, none⟩ (.int .i64 m')).setCell ⟨R, 2, none⟩ (.bool g')).setCell ⟨R, 3, none⟩ (.int .i64 a')).setCell ⟨R, 4, none⟩ (.int .i64 (gv : Nat))).setCell ⟨R, 5, none⟩ (.int .i64 s'))) = wf at *
      obtain ⟨k24, f24⟩ := HG.out _ _ _ is
      replace is := is.set 24 (.int .i64 (gv : Nat))
      go_upto_region 9 with fail
      clear k24 f24 hg4
      generalize wf.setCell ⟨P, 24, none⟩ (.int .i64 (gv : Nat)) = wg at *
      have k23 := is.cell N1.out.pc
      have f23 := is.free 23
      replace is := is.set 23 (.int .i64 2)
      go_upto_region 14 with fail
      clear k23 f23
      generalize wg.setCell ⟨P, 23, none⟩ (.int .i64 2) = wh at *
      have k23 := is.cell N2.out.pc
      simp only at k23
      go_wp2
      go_ret
      exact ⟨rfl, _, is, N2.out⟩
  · go_simp
    have hz : Hid _ := HdZ.ofNewD is0
    replace is := (is0.below (alloc_below _ (.cells #[.int .i64 0, .int .i64 0, .bool false, .int .i64 0, .int .i64 0, .int .i64 0] 48))).drew
    refine hK.out _ _ (HC.out _ _ _ is) (fun hS1 => ?_)
    (try simp only [Act.put, List.setIfInBounds_toArray, List.set_cons_zero, List.set_cons_succ])
    clear hK K
    generalize w.heap.size = R at hz ⊢
    generalize (w.alloc (.cells #[.int .i64 0, .int .i64 0, .bool false, .int .i64 0, .int .i64 0, .int .i64 0] 48)).drew = wA at *
    refine wpAnyH_ready (rs := [10]) (by kernel_rfl) (by simp) (AllReadyH.cons (o := { dst := some 31, op := Go.Op.call { callee := Go.Callee.value (Go.Operand.func 39), args := #[Go.Operand.tmp 25, Go.Operand.tmp 30], argTypes := #[23, 3] }, type := 3, pos := "arena.go:100", after := #[{ on := 4, ground := Go.Ground.data }, { on := 9, ground := Go.Ground.data }], guard := none }) rfl (fun K hK => ?_) AllReadyH.nil)
    go_simp
    go_at_call 39
    with_reducible refine (c2 _).mono ?_
    rintro e w4 ⟨rfl, b⟩
    (try simp only [])
    replace is := is.below b
    replace hz : Hid _ := hz.out.below b
    clear b
    refine hK.out _ _ (HC.out _ _ _ is) (fun hS1 => ?_)
    (try simp only [Act.put, List.setIfInBounds_toArray, List.set_cons_zero, List.set_cons_succ])
    clear hK K
    refine wpAnyH_ready (rs := [11]) (by kernel_rfl) (by simp) (AllReadyH.cons (o := { dst := some 32, op := Go.Op.call { callee := Go.Callee.value (Go.Operand.func 50), args := #[Go.Operand.tmp 21, Go.Operand.tmp 31], argTypes := #[28, 3] }, type := 35, pos := "arena.go:100", after := #[{ on := 0, ground := Go.Ground.data }, { on := 10, ground := Go.Ground.data }, { on := 10, ground := Go.Ground.chain }], guard := none }) rfl (fun K hK => ?_) AllReadyH.nil)
    go_simp
    go_at_call 50
    with_reducible refine (c0 _ is).mono ?_
    rintro e w5 ⟨rfl, i1, ho⟩
    (try simp only [])
    clear is
    have is := i1
    clear i1
    replace hz : Hid _ := hz.out.only ho
    clear ho
    refine hK.out _ _ (HC.out _ _ _ is) (fun hS1 => ?_)
    (try simp only [Act.put, List.setIfInBounds_toArray, List.set_cons_zero, List.set_cons_succ])
    clear hK K
    refine wpAnyH_ready (rs := [12]) (by kernel_rfl) (by simp) (AllReadyH.cons (o := { dst := some 33, op := Go.Op.call { callee := Go.Callee.value (Go.Operand.func 49), args := #[Go.Operand.tmp 32], argTypes := #[35] }, type := 49, pos := "arena.go:100", after := #[{ on := 11, ground := Go.Ground.data }, { on := 11, ground := Go.Ground.chain }], guard := none }) rfl (fun K hK => ?_) AllReadyH.nil)
    go_simp
    go_at_call 49
    with_reducible refine (c3 _ is.wt).mono ?_
    rintro e w6 ⟨rfl, b⟩
    (try simp only [])
    replace is := is.below b
    replace hz : Hid _ := hz.out.below b
    clear b
    refine hK.out _ _ (HC.out _ _ _ is) (fun hS1 => ?_)
    (try simp only [Act.put, List.setIfInBounds_toArray, List.set_cons_zero, List.set_cons_succ])
    clear hK K
    refine wpAnyH_take (i := 13) (oi := { dst := some 20, op := Go.Op.move (Go.Operand.tmp 33), type := 49, pos := "arena.go:100", after := #[{ on := 12, ground := Go.Ground.data }], guard := none }) (v := .tuple #[.agg #[.int .i64 k', .int .i64 m', .bool g', .int .i64 a', .int .i64 (gv : Nat), .int .i64 s'], .bool z']) rfl (by kernel_rfl) (by kernel_rfl) (by kernel_rfl) (fun _ _ _ h => h) (Or.inl ⟨by rfl, fun w hSw => by (try dsimp only at hSw); go_simp⟩) hS1 ?_
    simp only [Act.put, List.setIfInBounds_toArray, List.set_cons_zero, List.set_cons_succ]
    refine wpAnyH_take (i := 14) (oi := { dst := some 34, op := Go.Op.extract (Go.Operand.tmp 20) 0, type := 48, pos := "arena.go:100", after := #[{ on := 13, ground := Go.Ground.data }], guard := none }) (v := .agg #[.int .i64 k', .int .i64 m', .bool g', .int .i64 a', .int .i64 (gv : Nat), .int .i64 s']) rfl (by kernel_rfl) (by kernel_rfl) (by kernel_rfl) (fun _ _ _ h => h) (Or.inl ⟨by rfl, fun w hSw => by (try dsimp only at hSw); go_simp⟩) hS1 ?_
    simp only [Act.put, List.setIfInBounds_toArray, List.set_cons_zero, List.set_cons_succ]
    refine wpAnyH_take (i := 15) (oi := { dst := some 35, op := Go.Op.extract (Go.Operand.tmp 20) 1, type := 4, pos := "arena.go:100", after := #[{ on := 13, ground := Go.Ground.data }, { on := 17, ground := Go.Ground.gcOnly Go.Departure.lateStores }], guard := none }) (v := .bool z') rfl (by kernel_rfl) (by kernel_rfl) (by kernel_rfl) (fun _ _ _ h => h) (Or.inl ⟨by rfl, fun w hSw => by (try dsimp only at hSw); go_simp⟩) hS1 ?_
    simp only [Act.put, List.setIfInBounds_toArray, List.set_cons_zero, List.set_cons_succ]
    refine wpAnyH_ready (rs := [17]) (by kernel_rfl) (by simp) (AllReadyH.cons (o := { dst := none, op := Go.Op.store 48 (Go.Operand.tmp 5) (Go.Operand.tmp 34), type := 0, pos := "arena.go:100", after := #[{ on := 16, ground := Go.Ground.data }, { on := 14, ground := Go.Ground.data }, { on := 12, ground := Go.Ground.chain }, { on := 0, ground := Go.Ground.phase }, { on := 1, ground := Go.Ground.phase }, { on := 2, ground := Go.Ground.phase }, { on := 3, ground := Go.Ground.phase }, { on := 4, ground := Go.Ground.phase }, { on := 5, ground := Go.Ground.phase }, { on := 6, ground := Go.Ground.phase }, { on := 7, ground := Go.Ground.phase }, { on := 8, ground := Go.Ground.phase }, { on := 9, ground := Go.Ground.phase }, { on := 10, ground := Go.Ground.phase }, { on := 11, ground := Go.Ground.phase }, { on := 12, ground := Go.Ground.phase }, { on := 13, ground := Go.Ground.phase }, { on := 14, ground := Go.Ground.phase }, { on := 15, ground := Go.Ground.textOnly Go.Departure.lateStores }, { on := 16, ground := Go.Ground.phase }], guard := none }) rfl (fun K hK => ?_) AllReadyH.nil)
    obtain ⟨⟨q0, q1, q2, q3, q4, q5⟩, y⟩ := hz.out.cells
    have y0 := y 0
    have y1 := y 1
    have y2 := y 2
    have y3 := y 3
    have y4 := y 4
    have y5 := y 5
    clear y
    go_simp
    replace is := is.six hz.out hws.out (.int .i64 k') (.int .i64 m') (.bool g') (.int .i64 a') (.int .i64 (gv : Nat)) (.int .i64 s')
    have hg4 := hz.out.got k' m' g' a' gv s'
    refine hK.out _ _ (HC.out _ _ _ is) (fun hS1 => ?_)
    (try simp only [Act.put, List.setIfInBounds_toArray, List.set_cons_zero, List.set_cons_succ])
    clear hK K q0 q1 q2 q3 q4 q5 y0 y1 y2 y3 y4 y5 hz
    refine wpAnyH_take (i := 18) (oi := { dst := some 6, op := Go.Op.assign (Go.Operand.tmp 35), type := 4, pos := "arena.go:100", after := #[{ on := 15, ground := Go.Ground.data }, { on := 17, ground := Go.Ground.chain }, { on := 0, ground := Go.Ground.phase }, { on := 1, ground := Go.Ground.phase }, { on := 2, ground := Go.Ground.phase }, { on := 3, ground := Go.Ground.phase }, { on := 4, ground := Go.Ground.phase }, { on := 5, ground := Go.Ground.phase }, { on := 6, ground := Go.Ground.phase }, { on := 7, ground := Go.Ground.phase }, { on := 8, ground := Go.Ground.phase }, { on := 9, ground := Go.Ground.phase }, { on := 10, ground := Go.Ground.phase }, { on := 11, ground := Go.Ground.phase }, { on := 12, ground := Go.Ground.phase }, { on := 13, ground := Go.Ground.phase }, { on := 14, ground := Go.Ground.phase }, { on := 15, ground := Go.Ground.phase }, { on := 16, ground := Go.Ground.phase }, { on := 17, ground := Go.Ground.phase }], guard := none }) (v := .bool z') rfl (by kernel_rfl) (by kernel_rfl) (by kernel_rfl) (fun _ _ _ h => h) (Or.inl ⟨by rfl, fun w hSw => by (try dsimp only at hSw); go_simp⟩) hS1 ?_
    simp only [Act.put, List.setIfInBounds_toArray, List.set_cons_zero, List.set_cons_succ]
    refine wpAnyH_done (by kernel_rfl) ?_ _
    clear hS1
    generalize (((((((w6.setCell ⟨R, 0, none⟩ (.int .i64 k')).setCell ⟨R, 1, none⟩ (.int .i64 m')).setCell ⟨R, 2, none⟩ (.bool g')).setCell ⟨R, 3, none⟩ (.int .i64 a')).setCell ⟨R, 4, none⟩ (.int .i64 (gv : Nat))).setCell ⟨R, 5, none⟩ (.int .i64 s'))) = wf at *
    obtain ⟨k24, f24⟩ := HG.out _ _ _ is
    replace is := is.set 24 (.int .i64 (gv : Nat))
    go_upto_region 9 with fail
    clear k24 f24 hg4
    generalize wf.setCell ⟨P, 24, none⟩ (.int .i64 (gv : Nat)) = wg at *
    have k23 := is.cell N1.out.pc
    have f23 := is.free 23
    replace is := is.set 23 (.int .i64 2)
    go_upto_region 14 with fail
    clear k23 f23
    generalize wg.setCell ⟨P, 23, none⟩ (.int .i64 2) = wh at *
    have k23 := is.cell N2.out.pc
    simp only at k23
    go_wp2
    go_ret
    exact ⟨rfl, _, is, N2.out⟩

/-- A Make's step. -/
theorem mk_any {w : World} {M G P : Nat} {X : List Nat} {T : Int} {c : Array Value} {t : TypeId} {K : Cf} {m : Mk} (hK : K.Ok) (is : InA w w M G K.N X T P c t) (hm : MkAt c K m) (hk : m.Ok K) (h3 : m.pc ≤ 3) (hb : IsWords w m.bb m.body) (hbb : m.bb ∉ [P, M, G]) (hT : T + 1 < 4611686018427387904) :
    Calls Tryd.prog 20 #[.pointer (some ⟨P, 0, none⟩), .pointer (some ⟨M, 0, none⟩)] w fun r w' => r = .returned (.bool (decide ((mkX K X m).2.pc = 4))) ∧ ∃ c', InA w w' M G K.N (mkX K X m).1 (T + 1) P c' t ∧ MkAt c' K (mkX K X m).2 := by
  have hX := fun i => is.mem.fits i
  have h4 : m.pc = 0 ∨ m.pc = 1 ∨ m.pc = 2 ∨ m.pc = 3 := by omega
  rcases h4 with h | h | h | h
  · have e : mkX K X m = ((popX K X m.p).1, if (popX K X m.p).2.pc = 3 then
        (if (popX K X m.p).2.em = true then { m with p := (popX K X m.p).2, full := true, pc := 4 } else { m with p := (popX K X m.p).2, pc := 1 })
      else { m with p := (popX K X m.p).2 }) := by unfold mkX; rw [if_pos h]
    rw [e]
    have c0 := pop_any hK is hm.p hk.wf (hk.p0 h) hT
    refine mk_call is hm (.inl ⟨h, rfl⟩) ?_
    by_cases hd : (popX K X m.p).2.pc = 3
    · rw [if_pos hd]
      rw [decide_eq_true hd] at c0
      exact take_done hm c0
    · rw [if_neg hd]
      rw [decide_eq_false hd] at c0
      exact take_go hm c0
  · obtain ⟨s, hs, he⟩ := hk.some (by omega) (by omega)
    have es : m.slot = s := by unfold Mk.slot; rw [he]; rfl
    have e : mkX K X m = (X, { m with gen := genW (X.getD (K.hd s) 0), pc := 2 }) := by unfold mkX; rw [if_neg (by omega), if_pos h, es]
    rw [e]
    exact mk_gen is hm h hT (K.hd_lt hs) he (fun w => header_at hK hs rfl w)
  · obtain ⟨s, hs, he⟩ := hk.some (by omega) (by omega)
    have es : m.slot = s := by unfold Mk.slot; rw [he]; rfl
    have e : mkX K X m = (X.set (K.bd s m.nx) (m.body.getD m.nx 0), { m with nx := m.nx + 1, pc := if m.nx + 1 = m.body.length then 3 else m.pc }) := by unfold mkX; rw [if_neg (by omega), if_neg (by omega), if_pos h, es, h]
    rw [e]
    have hn := hk.nx (by omega)
    have hl := hk.len
    have h8 := hK.b8
    exact mk_call is hm (.inr (.inl ⟨h, rfl⟩)) (storeWord_as is hm hT (K.bd_lt hs hn) he (by omega) (by omega) hb hbb rfl (hk.fits _) (fun w => body_at hK hs hn rfl rfl w))
  · obtain ⟨s, hs, he⟩ := hk.some (by omega) (by omega)
    have es : m.slot = s := by unfold Mk.slot; rw [he]; rfl
    have e : mkX K X m = (X.set (K.hd s) (madeW m.kind m.ar m.gen m.e), { m with sl := m.p.sl, pc := 4 }) := by unfold mkX; rw [if_neg (by omega), if_neg (by omega), if_neg (by omega), if_pos h, es]
    rw [e]
    have hr : Hr m.kind (bornN m.e) m.ar m.gen 0 := ⟨by rcases hk.kind with h | h <;> omega, Hh.bornN_lt _, hk.ar, hk.gen, by omega⟩
    have hu : Hh.usedK (m.kind : Nat) = true := by rcases hk.kind with h | h <;> rw [h] <;> rfl
    exact mk_call is hm (.inr (.inr ⟨h, rfl⟩)) (storeHeader_as is hm hT (K.hd_lt hs) he (Hh.wordOf_lt _ _ _ _ _ _ (by have := hr.k; omega) hr.m (Hh.bool_lt false) hr.a hr.n hr.s) (fun w hw => Hh.made_as _ _ _ _ hk.e hu _ true (fun w hw => Hh.pack_word false hr w hw) w hw) (fun w => header_at hK hs rfl w))

end Go.Proofs.YtjbjijkkmlehgaaDoor
