/- A maker's next work begins: a Free. -/
import Derived.Test.YtjbjijkkmlehgaaDoorPD
import Derived.Deep.RegionHeld
namespace Go.Proofs.YtjbjijkkmlehgaaDoor
open Go.RowKit
open Hh (WT wordOf okW Hr)
open Mm (IsWords)
set_option linter.unusedVariables false

theorem lt_of_cell2 {w : World} {b o : Nat} {v : Value} (h : w.cell? ⟨b, o, none⟩ = some v) : b < w.heap.size := Hh.lt_of_cell h
theorem hd_set0 {w : World} {b : Nat} {k m : Int} {g : Bool} {a n s : Int} (h : Hh.IsHd w b k m g a n s) (v : Int) : Hh.IsHd (w.setCell ⟨b, 0, none⟩ (.int .i64 v)) b v m g a n s := Hh.heap_setCell_at h _
theorem hd_set2 {w : World} {b : Nat} {k m : Int} {g : Bool} {a n s : Int} (h : Hh.IsHd w b k m g a n s) (v : Bool) : Hh.IsHd (w.setCell ⟨b, 2, none⟩ (.bool v)) b k m v a n s := Hh.heap_setCell_at h _
/-- The maker's cells when what it has longest goes into limbo. -/
def curF (cur : Array Value) (o : Nat) (x : Wo) (wv hv : Value) (s : Nat) : Array Value := ((curN cur o x wv).setIfInBounds (o + 9) (.int .i64 (s : Nat))).setIfInBounds (o + 6) hv
set_option maxRecDepth 100000 in
set_option maxHeartbeats 20000000 in
/-- A Free begins. -/
theorem begin_free {w : World} {K : Cf} (hK : K.Ok) {B M G D L o b off wn wc g go hn hc s : Nat} {cur : Array Value} {x : Wo} {X : List Nat} {T : Int} (row : RowM w L cur) (wd : WdAt w K B M D) (mem : MemX w M G X T) (hX : X.length = K.N) (ht : 0 ≤ T ∧ T < 4611686018427387904) (hne : B ≠ L ∧ M ≠ L ∧ G ≠ L ∧ B ≠ M ∧ B ≠ G) (h0 : cur[o]? = some (.slice (some ⟨b, off, none⟩) (wn + 1) wc))
    (z1 : cur[o + 1]?.isSome) (z2 : cur[o + 2]?.isSome) (z3 : cur[o + 3]?.isSome) (z4 : cur[o + 4]?.isSome) (z5 : cur[o + 5]?.isSome) (h6 : cur[o + 6]? = some (.slice (some ⟨g, go, none⟩) (hn + 1) hc)) (h8 : cur[o + 8]? = some (.pointer none)) (z9 : cur[o + 9]?.isSome) (hg : w.cell? ⟨g, go, none⟩ = some (.int .i64 (s : Nat))) (hgL : g ≠ L) (hhc : hn + 1 ≤ hc) (hhm : hc < 9223372036854775808) (hx : WoAt w b off x) (hb : b ≠ L) (hf : x.free = true) (hcap : wn + 1 ≤ wc) (hcm : wc < 9223372036854775808)
    (hs : s < K.S) {k m a N : Nat} (hr : Hr k m a N 0) (hw : X.getD (K.hd s) 0 = wordOf k m (false : Bool).toNat a N 0) (hr3 : Hr 3 m a N 0) {wa' ha' : Option Addr} (hwa : (if wc = 1 then some (⟨b, off, none⟩ : Addr) else some ⟨b, off + 5, none⟩) = wa') (hha : (if hc = 1 then some (⟨g, go, none⟩ : Addr) else some ⟨g, go + 1, none⟩) = ha') :
    Calls Tryd.prog 40 #[.pointer (some ⟨L, o, none⟩), .pointer (some ⟨B, 0, none⟩)] w fun e w' => e = .returned (.bool true) ∧ ∃ P, RowM w' L ((curF cur o x (.slice wa' wn (wc - 1)) (.slice ha' hn (hc - 1)) s).setIfInBounds (o + 8) (.pointer (some ⟨P, 0, none⟩))) ∧ FrIn w' K P ⟨false, false, ⟨s, 0, 0⟩, 0, 0⟩ ∧ w.heap.size ≤ P ∧ MemX w' M G (X.set (K.hd s) (wordOf 3 m (false : Bool).toNat a N 0)) (T + 1) ∧ Chg [L, M, G] w w' := by
  obtain ⟨u1, e1⟩ := Option.isSome_iff_exists.1 z1
  obtain ⟨u2, e2⟩ := Option.isSome_iff_exists.1 z2
  obtain ⟨u3, e3⟩ := Option.isSome_iff_exists.1 z3
  obtain ⟨u4, e4⟩ := Option.isSome_iff_exists.1 z4
  obtain ⟨u5, e5⟩ := Option.isSome_iff_exists.1 z5
  obtain ⟨u9, e9⟩ := Option.isSome_iff_exists.1 z9
  have q0 := row.cell h0
  have q1 := row.cell e1
  have q2 := row.cell e2
  have q3 := row.cell e3
  have q4 := row.cell e4
  have q5 := row.cell e5
  have q6 := row.cell h6
  have q9 := row.cell e9
  have f0 := row.free o
  have f1 := row.free (o + 1)
  have f2 := row.free (o + 2)
  have f3 := row.free (o + 3)
  have f4 := row.free (o + 4)
  have f5 := row.free (o + 5)
  obtain ⟨x0, x1, x2, x3, x4⟩ := hx
  have hn0 : (0 : Int) < (wn : Int) + 1 := by omega
  have hn1 : ¬ ((wn : Int) + 1 < 1) := by omega
  have hsz9 : o + 9 < cur.size := lt_get e9
  rw [hf] at x0
  have hRow : Hid (∀ wv, RowM (nowW w L o x wv) L (curN cur o x wv) ∧ Chg [L] w (nowW w L o x wv) ∧ CurN cur (curN cur o x wv) o x wv ∧ (nowW w L o x wv).heap.size = w.heap.size) := fun wv => ⟨nowW_row row, nowW_chg _ _ _ _ _, curN_cells (by omega), nowW_size _ _ _ _ _⟩
  have hWd := hide wd
  have HM := hide mem
  have H6 := hide h6
  have H8 := hide h8
  have H9 := hide e9
  have HG := hide hg
  have HWA := hide hwa
  have HHA := hide hha
  have HK := hide hK
  have HR := hide (And.intro hr (And.intro hr3 hw))
  have HB := hide (And.intro hs (And.intro hX (And.intro hK.N_b (And.intro ht hne))))
  have HN := hide (And.intro hhc hhm)
  have hgL2 : g ∉ [L] := by simpa using hgL
  have HGL := hide hgL2
  have HZ := hide hsz9
  clear row h0 z1 z2 z3 z4 z5 z9 e1 e2 e3 e4 e5 e9 wd mem h6 h8 hg hwa hha hK hr hr3 hw hs hX ht hne hhc hhm hgL hgL2 hsz9 q9
  go_enter Tryd.func40, Tryd.ntmps40
  have hh0 : ¬ ((hn : Int) + 1 = 0) := by omega
  go_upto_region 6 with fail
  rw [HWA.out]
  obtain ⟨row, ch, cn, hsz⟩ := hRow.out (.slice wa' wn (wc - 1))
  have wd := hWd.out.chg ch (by simpa using HB.out.2.2.2.2.1)
  generalize hw5 : ((((((w.setCell ⟨L, o + 1, none⟩ (.bool true)).setCell ⟨L, o + 2, none⟩ (.bool x.rc)).setCell ⟨L, o + 3, none⟩ (.int .u8 (x.ar : Nat))).setCell ⟨L, o + 4, none⟩ (.int .u8 (x.e : Nat))).setCell ⟨L, o + 5, none⟩ (.int .u64 (x.wd : Nat))).setCell ⟨L, o, none⟩ (.slice wa' wn (wc - 1))) = w5
  have e5 : nowW w L o x (.slice wa' wn (wc - 1)) = w5 := by rw [← hw5]; unfold nowW; rw [hf]
  rw [e5] at row ch wd hsz
  clear hw5 e5
  obtain ⟨c5, hc5⟩ : ∃ c5, curN cur o x (.slice wa' wn (wc - 1)) = c5 := ⟨_, rfl⟩
  rw [hc5] at row cn
  have HC5 := hide hc5
  clear q0 q1 q2 q3 q4 q5 q6 f0 f1 f2 f3 f4 f5 x0 x1 x2 x3 x4 hn0 hn1 hRow hWd HWA hc5
  have p6 := row.cell ((cn.hi 6 (by omega)).trans H6.out)
  have p9 := row.cell ((cn.hi 9 (by omega)).trans H9.out)
  have y6 := row.free (o + 6)
  have y9 := row.free (o + 9)
  have pg : w5.cell? ⟨g, go, none⟩ = some (.int .i64 (s : Nat)) := by
    rw [← HG.out]
    exact World.cell?_of_block (w := w) (ch.block g (lt_of_cell2 HG.out) HGL.out)
  have hne : g ≠ L := by simpa using HGL.out
  have hk0 : (0 : Int) < (hn : Int) + 1 := by omega
  have hk1 : ¬ ((hn : Int) + 1 < 1) := by omega
  have ROW := hide row
  have WD := hide wd
  have CN := hide cn
  have CH := hide ch
  clear row wd cn ch hcap hcm hb
  have hhc1 := HN.out.1
  have hhc2 := HN.out.2
  go_upto_region 8 with fail
  rw [HHA.out]
  clear p6 p9 y6 y9 pg hne hk0 hk1 hhc1 hhc2
  have row8 := (ROW.out.set (o + 9) (.int .i64 (s : Nat))).set (o + 6) (.slice ha' hn (hc - 1))
  have ch8 : Chg [L] w5 ((w5.setCell ⟨L, o + 9, none⟩ (.int .i64 (s : Nat))).setCell ⟨L, o + 6, none⟩ (.slice ha' hn (hc - 1))) := ((Chg.refl [L] w5).setCell (.inl (by simp)) _).setCell (.inl (by simp)) _
  have hsz8 : ((w5.setCell ⟨L, o + 9, none⟩ (.int .i64 (s : Nat))).setCell ⟨L, o + 6, none⟩ (.slice ha' hn (hc - 1))).heap.size = w5.heap.size := by simp
  have hcF : (c5.setIfInBounds (o + 9) (.int .i64 (s : Nat))).setIfInBounds (o + 6) (.slice ha' hn (hc - 1)) = curF cur o x (.slice wa' wn (wc - 1)) (.slice ha' hn (hc - 1)) s := by unfold curF; rw [HC5.out]
  have c89 : ((c5.setIfInBounds (o + 9) (.int .i64 (s : Nat))).setIfInBounds (o + 6) (.slice ha' hn (hc - 1)))[o + 9]? = some (.int .i64 (s : Nat)) := by
    rw [set_ne (by omega)]
    exact set_eq ((CN.out.hi 9 (by omega)).trans H9.out)
  have c88 : ((c5.setIfInBounds (o + 9) (.int .i64 (s : Nat))).setIfInBounds (o + 6) (.slice ha' hn (hc - 1)))[o + 8]? = some (.pointer none) := by
    rw [set_ne (by omega), set_ne (by omega)]
    exact (CN.out.hi 8 (by omega)).trans H8.out
  obtain ⟨c8, hc8⟩ : ∃ c8, (c5.setIfInBounds (o + 9) (.int .i64 (s : Nat))).setIfInBounds (o + 6) (.slice ha' hn (hc - 1)) = c8 := ⟨_, rfl⟩
  rw [hc8] at row8 hcF c89 c88
  generalize (w5.setCell ⟨L, o + 9, none⟩ (.int .i64 (s : Nat))).setCell ⟨L, o + 6, none⟩ (.slice ha' hn (hc - 1)) = w8 at *
  have chw : Chg [L] w w8 := CH.out.trans ch8
  have szw : w8.heap.size = w.heap.size := by omega
  have hBm := HB.out.2.2.2.2
  have R1 := hide row8
  have D1 := hide (WdAt.chg WD.out ch8 (by simpa using hBm.1))
  have X1h := hide (MemX.chg HM.out chw (by simpa using hBm.2.1) (by simpa using hBm.2.2.1))
  have HCW := hide (And.intro chw szw)
  have H89 := hide c89
  have H88 := hide c88
  have HCF := hide hcF
  clear row8 ch8 chw szw hsz8 hsz hcF c89 c88 hc8 ROW WD CN CH HM H6 H8 H9 HG HHA HN HGL HZ HC5 hf hBm
  have hsS := HB.out.1
  have HC : Hid (∀ wr, Below w8.heap.size w8 wr → (wr.cell? ⟨B, 6, none⟩ = some (.pointer (some ⟨M, 0, none⟩)) ∧ wr.cell? ⟨L, o + 9, none⟩ = some (.int .i64 (s : Nat)))) := fun wr b => ⟨(WdAt.below D1.out b).cells.2.1, (RowM.below R1.out b).cell H89.out⟩
  have c16' : ∀ wr, Below w8.heap.size w8 wr → Calls Tryd.prog 16 #[.pointer (some ⟨B, 0, none⟩), .string ⟨#[104, 101, 97, 100, 101, 114]⟩, .int .i64 (s : Nat), .int .i64 0] wr fun e w' => e = .returned (.int .i64 (K.hd s : Nat)) ∧ Below wr.heap.size wr w' := fun wr b => wat16_hd HK.out (WdAt.below D1.out b) HB.out.1
  have c13' : ∀ wr, Below w8.heap.size w8 wr → Calls Tryd.prog 13 #[.pointer (some ⟨M, 0, none⟩)] wr fun e w' => ∃ Q, e = .returned (.slice (some ⟨Q, 0, none⟩) X.length X.length) ∧ IsWords w' Q X ∧ Below wr.heap.size wr w' := fun wr b => (wordsX (MemX.below X1h.out b) rfl (by have := HB.out.2.1; have := HB.out.2.2.1; omega)).mono fun e w' ⟨R, a1, a2, _, a4⟩ => ⟨R, a1, a2, a4⟩
  have c15' : ∀ wr, Calls Tryd.prog 15 #[.int .u64 ((wordOf k m (false : Bool).toNat a N 0 : Nat) : Int)] wr fun e w' => e = .returned (.tuple #[.agg #[.int .i64 (k : Nat), .int .i64 (m : Nat), .bool false, .int .i64 (a : Nat), .int .i64 (N : Nat), .int .i64 0], .bool true]) ∧ Below wr.heap.size wr w' := fun wr => Hh.runpack_word false HR.out.1 wr
  have c25' : ∀ wr, Calls Tryd.prog 25 #[.agg #[.int .i64 3, .int .i64 (m : Nat), .bool false, .int .i64 (a : Nat), .int .i64 (N : Nat), .int .i64 0]] wr fun e w' => e = .returned (.int .u64 ((wordOf 3 m (false : Bool).toNat a N 0 : Nat) : Int)) ∧ Below wr.heap.size wr w' := fun wr => Hh.rpack_any 3 m false a N 0 (by omega) HR.out.2.1.m HR.out.2.1.a HR.out.2.1.n HR.out.2.1.s wr
  have c21' : ∀ wr, Calls Tryd.prog 21 #[.agg (cs K.S K.a K.C K.D K.g K.k), .int .i64 (s : Nat)] wr fun e w' => ∃ P c, e = .returned (.pointer (some ⟨P, 0, none⟩)) ∧ NewBlk wr w' P c 72 ∧ FrAt c K ⟨false, false, ⟨s, 0, 0⟩, 0, 0⟩ := fun wr => newFree_yes HK.out HB.out.1 wr
  have hV : wordOf 3 m (false : Bool).toNat a N 0 < 18446744073709551616 := Hh.wordOf_lt _ _ _ _ _ _ (by omega) HR.out.2.1.m (Hh.bool_lt false) HR.out.2.1.a HR.out.2.1.n HR.out.2.1.s
  have hdl : K.hd s < X.length := by rw [HB.out.2.1]; exact K.hd_lt HB.out.1
  have hwo := HR.out.2.2
  have HT := HB.out.2.2.2.1
  obtain ⟨W, hWe⟩ : ∃ W, wordOf k m (false : Bool).toNat a N 0 = W := ⟨_, rfl⟩
  obtain ⟨V, hVe⟩ : ∃ V, wordOf 3 m (false : Bool).toNat a N 0 = V := ⟨_, rfl⟩
  rw [hWe] at c15' hwo
  rw [hVe] at c25' hV
  have HVE := hide hVe
  have HWD := hide hwo
  have HDL := hide hdl
  have c24' : ∀ w12 wr, MemX w12 M G X T → Below w12.heap.size w12 wr → Calls Tryd.prog 24 #[.pointer (some ⟨M, 0, none⟩), .int .i64 (K.hd s : Nat), .int .u64 (V : Nat)] wr fun e w' => e = .returned (.bool true) ∧ MemX w' M G (X.set (K.hd s) V) (T + 1) ∧ Chg [M, G] w12 w' := fun w12 wr hm b => (storeX (MemX.below hm b) HDL.out hV HT).mono fun e w' ⟨a1, a2, a3⟩ => ⟨a1, a2, (Chg.of_below b).trans (Chg.of_only a3 (by simp) (by simp))⟩
  have FIN : Hid (∀ w11, Below w8.heap.size w8 w11 → ∀ w' P c, NewBlk w11.drew w' P c 72 → FrAt c K ⟨false, false, ⟨s, 0, 0⟩, 0, 0⟩ → ∀ w15, Chg [M, G] (w'.setCell ⟨L, o + 8, none⟩ (.pointer (some ⟨P, 0, none⟩))) w15 → RowM w15 L (c8.setIfInBounds (o + 8) (.pointer (some ⟨P, 0, none⟩))) ∧ FrIn w15 K P ⟨false, false, ⟨s, 0, 0⟩, 0, 0⟩ ∧ w.heap.size ≤ P ∧ Chg [L, M, G] w w15) := fun w11 b11 w' P c nb fa w15 cg => by
    have hBm := HB.out.2.2.2.2
    have b1 : Below w8.heap.size w8 w' := seq_below b11.drew nb.bel
    have r1 := (RowM.below R1.out b1).set (o + 8) (.pointer (some ⟨P, 0, none⟩))
    have hl8 : L < w8.heap.size := RowM.lt R1.out
    have hm8 := MemX.lt X1h.out
    have hP := nb.new
    have hP2 : w8.heap.size ≤ P := Nat.le_trans b11.size hP
    have c0 : Chg [L] w' (w'.setCell ⟨L, o + 8, none⟩ (.pointer (some ⟨P, 0, none⟩))) := (Chg.refl [L] w').setCell (.inl (by simp)) _
    have fr : FrIn w' K P ⟨false, false, ⟨s, 0, 0⟩, 0, 0⟩ := ⟨c, nb.blk, fa⟩
    have m3 : ∀ {u v : World}, Chg [L] u v → Chg [L, M, G] u v := fun h => h.mono (fun i hi => .inl (by simp at hi; simp [hi]))
    refine ⟨r1.chg cg (by simp; exact ⟨Ne.symm hBm.2.1, Ne.symm hBm.2.2.1⟩), (fr.chg c0 (by simp; omega)).chg cg (by simp; omega), by have := HCW.out.2; omega, ?_⟩
    exact ((m3 (HCW.out.1.then_below b1)).trans (m3 c0)).trans (cg.mono (fun i hi => .inl (by simp at hi ⊢; rcases hi with h | h <;> simp [h])))
  have HS11 : Hid (∀ wr, Below w8.heap.size w8 wr → wr.cell? ⟨B, 0, none⟩ = some (.int .i64 (K.S : Nat)) ∧ wr.cell? ⟨B, 1, none⟩ = some (.int .i64 K.a) ∧ wr.cell? ⟨B, 2, none⟩ = some (.int .i64 (K.C : Nat)) ∧ wr.cell? ⟨B, 3, none⟩ = some (.int .i64 (K.D : Nat)) ∧ wr.cell? ⟨B, 4, none⟩ = some (.int .i64 K.g) ∧ wr.cell? ⟨B, 5, none⟩ = some (.int .i64 K.k) ∧ wr.cell? ⟨L, o + 9, none⟩ = some (.int .i64 (s : Nat))) := fun wr b => by
    obtain ⟨⟨l0, l1, l2, l3, l4, l5⟩, _, _⟩ := (WdAt.below D1.out b).cells
    exact ⟨l0, l1, l2, l3, l4, l5, (RowM.below R1.out b).cell H89.out⟩
  have HS8 : Hid (∀ wr, Below w8.heap.size w8 wr → wr.cell? ⟨L, o + 8, none⟩ = some (.pointer none) ∧ wr.frozen? ⟨L, o + 8, none⟩ = false) := fun wr b => ⟨(RowM.below R1.out b).cell H88.out, (RowM.below R1.out b).free _⟩
  have HB12 : Hid (∀ wr v, Below w8.heap.size w8 wr → RowM (wr.setCell ⟨L, o + 8, none⟩ v) L (c8.setIfInBounds (o + 8) v) ∧ WdAt (wr.setCell ⟨L, o + 8, none⟩ v) K B M D ∧ MemX (wr.setCell ⟨L, o + 8, none⟩ v) M G X T ∧ (wr.setCell ⟨L, o + 8, none⟩ v).cell? ⟨L, o + 8, none⟩ = some v ∧ (wr.setCell ⟨L, o + 8, none⟩ v).cell? ⟨L, o + 9, none⟩ = some (.int .i64 (s : Nat))) := fun wr v b => by
    have hBm := HB.out.2.2.2.2
    have c0 : Chg [L] wr (wr.setCell ⟨L, o + 8, none⟩ v) := (Chg.refl [L] wr).setCell (.inl (by simp)) _
    have r1 := (RowM.below R1.out b).set (o + 8) v
    exact ⟨r1, (WdAt.below D1.out b).chg c0 (by simpa using hBm.1), (MemX.below X1h.out b).chg c0 (by simpa using hBm.2.1) (by simpa using hBm.2.2.1), r1.cell (set_eq H88.out), r1.cell (by rw [set_ne (by omega)]; exact H89.out)⟩
  have HNE := hide HB.out.2.2.2.2
  have HXL : Hid (∀ R, w8.heap.size ≤ R → R ≠ L ∧ R ≠ M ∧ R ≠ G ∧ R ≠ B) := fun R hR => by
    have hl8 : L < w8.heap.size := RowM.lt R1.out
    have hm8 := MemX.lt X1h.out
    have hb8 : B < w8.heap.size := lt_of_block D1.out
    omega
  have c16b : Hid (∀ w12 wr, WdAt w12 K B M D → Below w12.heap.size w12 wr → Calls Tryd.prog 16 #[.pointer (some ⟨B, 0, none⟩), .string ⟨#[104, 101, 97, 100, 101, 114]⟩, .int .i64 (s : Nat), .int .i64 0] wr fun e w' => e = .returned (.int .i64 (K.hd s : Nat)) ∧ Below wr.heap.size wr w') := fun w12 wr h b => wat16_hd HK.out (WdAt.below h b) HB.out.1
  have c24 := hide c24'
  have c21 := hide c21'
  have c25 := hide c25'
  have c15 := hide c15'
  have c16 := hide c16'
  obtain ⟨hd, hhd⟩ : ∃ hd, K.hd s = hd := ⟨_, rfl⟩
  rw [hhd] at hdl HDL HWD c16 c24 c16b
  have HHD := hide hhd
  obtain ⟨NN, hNN⟩ : ∃ NN, X.length = NN := ⟨_, rfl⟩
  rw [hNN] at hdl c13'
  have c13 := hide c13'
  clear c15' c16' c13' c25' c24' c21' hhd hNN hWe hVe hV hwo HT HR HB HK H88 HCW
  have bl : Below w8.heap.size w8 w8.drew := (Below.refl _ _).drew
  have hS0 := HC.out _ bl
  refine wp_region_held_drew (S := fun wr => wr.cell? ⟨B, 6, none⟩ = some (.pointer (some ⟨M, 0, none⟩)) ∧ wr.cell? ⟨L, o + 9, none⟩ = some (.int .i64 (s : Nat))) (by kernel_rfl) hS0 (fun hS1 => ?_)
  clear hS0
  refine wpAnyH_take (i := 0) (oi := { dst := some 55, op := Go.Op.move (Go.Operand.tmp 1), type := 27, pos := "law.go:75", after := #[], guard := none }) (v := .pointer (some ⟨B, 0, none⟩)) rfl (by kernel_rfl) (by kernel_rfl) (by kernel_rfl) (fun _ _ _ h => h) (Or.inl ⟨by rfl, fun w hSw => by (try dsimp only at hSw); go_simp⟩) hS1 ?_
  simp only [Act.put, List.setIfInBounds_toArray, List.set_cons_zero, List.set_cons_succ]
  refine wpAnyH_take (i := 1) (oi := { dst := some 56, op := Go.Op.nilCheck (Go.Operand.tmp 55), type := 0, pos := "law.go:75", after := #[{ on := 0, ground := Go.Ground.data }], guard := none }) (v := .pointer (some ⟨B, 0, none⟩)) rfl (by kernel_rfl) (by kernel_rfl) (by kernel_rfl) (fun _ _ _ h => h) (Or.inl ⟨by rfl, fun w hSw => by (try dsimp only at hSw); go_simp⟩) hS1 ?_
  simp only [Act.put, List.setIfInBounds_toArray, List.set_cons_zero, List.set_cons_succ]
  refine wpAnyH_take (i := 2) (oi := { dst := some 57, op := Go.Op.fieldAddr 31 (Go.Operand.tmp 56) 1, type := 0, pos := "law.go:75", after := #[{ on := 1, ground := Go.Ground.data }], guard := none }) (v := .pointer (some ⟨B, 6, none⟩)) rfl (by kernel_rfl) (by kernel_rfl) (by kernel_rfl) (fun _ _ _ h => h) (Or.inl ⟨by rfl, fun w hSw => by (try dsimp only at hSw); go_simp⟩) hS1 ?_
  simp only [Act.put, List.setIfInBounds_toArray, List.set_cons_zero, List.set_cons_succ]
  refine wpAnyH_take (i := 3) (oi := { dst := some 58, op := Go.Op.load 28 (Go.Operand.tmp 57), type := 28, pos := "law.go:75", after := #[{ on := 2, ground := Go.Ground.data }], guard := none }) (v := .pointer (some ⟨M, 0, none⟩)) rfl (by kernel_rfl) (by kernel_rfl) (by kernel_rfl) (fun _ _ _ h => h) (Or.inl ⟨by rfl, fun w hSw => by (try dsimp only at hSw); go_simp⟩) hS1 ?_
  simp only [Act.put, List.setIfInBounds_toArray, List.set_cons_zero, List.set_cons_succ]
  refine wpAnyH_take (i := 5) (oi := { dst := some 60, op := Go.Op.move (Go.Operand.tmp 1), type := 27, pos := "law.go:75", after := #[], guard := none }) (v := .pointer (some ⟨B, 0, none⟩)) rfl (by kernel_rfl) (by kernel_rfl) (by kernel_rfl) (fun _ _ _ h => h) (Or.inl ⟨by rfl, fun w hSw => by (try dsimp only at hSw); go_simp⟩) hS1 ?_
  simp only [Act.put, List.setIfInBounds_toArray, List.set_cons_zero, List.set_cons_succ]
  refine wpAnyH_take (i := 6) (oi := { dst := some 61, op := Go.Op.move (Go.Operand.tmp 0), type := 87, pos := "law.go:75", after := #[], guard := none }) (v := .pointer (some ⟨L, o, none⟩)) rfl (by kernel_rfl) (by kernel_rfl) (by kernel_rfl) (fun _ _ _ h => h) (Or.inl ⟨by rfl, fun w hSw => by (try dsimp only at hSw); go_simp⟩) hS1 ?_
  simp only [Act.put, List.setIfInBounds_toArray, List.set_cons_zero, List.set_cons_succ]
  refine wpAnyH_take (i := 7) (oi := { dst := some 62, op := Go.Op.nilCheck (Go.Operand.tmp 61), type := 0, pos := "law.go:75", after := #[{ on := 6, ground := Go.Ground.data }], guard := none }) (v := .pointer (some ⟨L, o, none⟩)) rfl (by kernel_rfl) (by kernel_rfl) (by kernel_rfl) (fun _ _ _ h => h) (Or.inl ⟨by rfl, fun w hSw => by (try dsimp only at hSw); go_simp⟩) hS1 ?_
  simp only [Act.put, List.setIfInBounds_toArray, List.set_cons_zero, List.set_cons_succ]
  refine wpAnyH_take (i := 8) (oi := { dst := some 63, op := Go.Op.fieldAddr 41 (Go.Operand.tmp 62) 5, type := 0, pos := "law.go:75", after := #[{ on := 7, ground := Go.Ground.data }], guard := none }) (v := .pointer (some ⟨L, o + 9, none⟩)) rfl (by kernel_rfl) (by kernel_rfl) (by kernel_rfl) (fun _ _ _ h => h) (Or.inl ⟨by rfl, fun w hSw => by (try dsimp only at hSw); go_simp⟩) hS1 ?_
  simp only [Act.put, List.setIfInBounds_toArray, List.set_cons_zero, List.set_cons_succ]
  refine wpAnyH_take (i := 9) (oi := { dst := some 64, op := Go.Op.load 3 (Go.Operand.tmp 63), type := 3, pos := "law.go:75", after := #[{ on := 8, ground := Go.Ground.data }], guard := none }) (v := .int .i64 (s : Nat)) rfl (by kernel_rfl) (by kernel_rfl) (by kernel_rfl) (fun _ _ _ h => h) (Or.inl ⟨by rfl, fun w hSw => by (try dsimp only at hSw); go_simp⟩) hS1 ?_
  simp only [Act.put, List.setIfInBounds_toArray, List.set_cons_zero, List.set_cons_succ]
  refine wpAnyH_ready (rs := [4, 17]) (by kernel_rfl) (by simp) (AllReadyH.cons (o := { dst := some 59, op := Go.Op.call { callee := Go.Callee.value (Go.Operand.func 13), args := #[Go.Operand.tmp 58], argTypes := #[28] }, type := 44, pos := "law.go:75", after := #[{ on := 3, ground := Go.Ground.data }], guard := none }) rfl (fun K hK => ?_) (AllReadyH.cons (o := { dst := some 5, op := Go.Op.alloc 48, type := 0, pos := "law.go:75", after := #[], guard := none }) rfl (fun K hK => ?_) AllReadyH.nil))
  · go_simp
    go_at_call 13
    with_reducible refine (c13.out _ bl).mono ?_
    rintro e v1 ⟨Q, rfl, hq, b⟩
    (try simp only [])
    replace bl := seq_below bl b
    clear b
    refine hK.out _ _ (HC.out _ bl) (fun hS1 => ?_)
    (try simp only [Act.put, List.setIfInBounds_toArray, List.set_cons_zero, List.set_cons_succ])
    clear hK K
    refine wpAnyH_ready (rs := [10, 17]) (by kernel_rfl) (by simp) (AllReadyH.cons (o := { dst := some 65, op := Go.Op.call { callee := Go.Callee.value (Go.Operand.func 16), args := #[Go.Operand.tmp 60, Go.Operand.const (Go.Value.string { data := #[104, 101, 97, 100, 101, 114] }), Go.Operand.tmp 64, Go.Operand.const (Go.Value.int Go.IntKind.i64 0)], argTypes := #[27, 9, 3, 3] }, type := 3, pos := "law.go:75", after := #[{ on := 5, ground := Go.Ground.data }, { on := 9, ground := Go.Ground.data }, { on := 4, ground := Go.Ground.chain }], guard := none }) rfl (fun K hK => ?_) (AllReadyH.cons (o := { dst := some 5, op := Go.Op.alloc 48, type := 0, pos := "law.go:75", after := #[], guard := none }) rfl (fun K hK => ?_) AllReadyH.nil))
    · go_simp
      go_at_call 16
      with_reducible refine (c16.out _ bl).mono ?_
      rintro e v2 ⟨rfl, b⟩
      (try simp only [])
      replace hq := words_below hq b
      replace bl := seq_below bl b
      clear b
      refine hK.out _ _ (HC.out _ bl) (fun hS1 => ?_)
      (try simp only [Act.put, List.setIfInBounds_toArray, List.set_cons_zero, List.set_cons_succ])
      clear hK K
      refine wpAnyH_take (i := 11) (oi := { dst := some 66, op := Go.Op.indexAddr 44 (Go.Operand.tmp 59) (Go.Operand.tmp 65), type := 0, pos := "law.go:75", after := #[{ on := 4, ground := Go.Ground.data }, { on := 10, ground := Go.Ground.data }], guard := none }) (v := .pointer (some ⟨Q, hd, none⟩)) rfl (by kernel_rfl) (by kernel_rfl) (by kernel_rfl) (fun _ _ _ h => h) (Or.inl ⟨by rfl, fun w hSw => by (try dsimp only at hSw); go_simp⟩) hS1 ?_
      simp only [Act.put, List.setIfInBounds_toArray, List.set_cons_zero, List.set_cons_succ]
      refine wpAnyH_ready (rs := [12, 17]) (by kernel_rfl) (by simp) (AllReadyH.cons (o := { dst := some 67, op := Go.Op.load 35 (Go.Operand.tmp 66), type := 35, pos := "law.go:75", after := #[{ on := 11, ground := Go.Ground.data }], guard := none }) rfl (fun K hK => ?_) (AllReadyH.cons (o := { dst := some 5, op := Go.Op.alloc 48, type := 0, pos := "law.go:75", after := #[], guard := none }) rfl (fun K hK => ?_) AllReadyH.nil))
      · have hqc := word_cell hq HDL.out HWD.out
        go_simp
        refine hK.out _ _ (HC.out _ bl) (fun hS1 => ?_)
        (try simp only [Act.put, List.setIfInBounds_toArray, List.set_cons_zero, List.set_cons_succ])
        clear hK K hqc hq
        refine wpAnyH_ready (rs := [13, 17]) (by kernel_rfl) (by simp) (AllReadyH.cons (o := { dst := some 68, op := Go.Op.call { callee := Go.Callee.value (Go.Operand.func 15), args := #[Go.Operand.tmp 67], argTypes := #[35] }, type := 49, pos := "law.go:75", after := #[{ on := 12, ground := Go.Ground.data }, { on := 10, ground := Go.Ground.chain }], guard := none }) rfl (fun K hK => ?_) (AllReadyH.cons (o := { dst := some 5, op := Go.Op.alloc 48, type := 0, pos := "law.go:75", after := #[], guard := none }) rfl (fun K hK => ?_) AllReadyH.nil))
        · go_simp
          go_at_call 15
          with_reducible refine (c15.out _).mono ?_
          rintro e v4 ⟨rfl, b⟩
          (try simp only [])
          replace bl := seq_below bl b
          clear b
          refine hK.out _ _ (HC.out _ bl) (fun hS1 => ?_)
          (try simp only [Act.put, List.setIfInBounds_toArray, List.set_cons_zero, List.set_cons_succ])
          clear hK K
          refine wpAnyH_take (i := 14) (oi := { dst := some 54, op := Go.Op.move (Go.Operand.tmp 68), type := 49, pos := "law.go:75", after := #[{ on := 13, ground := Go.Ground.data }], guard := none }) (v := .tuple #[.agg #[.int .i64 (k : Nat), .int .i64 (m : Nat), .bool false, .int .i64 (a : Nat), .int .i64 (N : Nat), .int .i64 0], .bool true]) rfl (by kernel_rfl) (by kernel_rfl) (by kernel_rfl) (fun _ _ _ h => h) (Or.inl ⟨by rfl, fun w hSw => by (try dsimp only at hSw); go_simp⟩) hS1 ?_
          simp only [Act.put, List.setIfInBounds_toArray, List.set_cons_zero, List.set_cons_succ]
          refine wpAnyH_take (i := 15) (oi := { dst := some 69, op := Go.Op.extract (Go.Operand.tmp 54) 0, type := 48, pos := "law.go:75", after := #[{ on := 14, ground := Go.Ground.data }], guard := none }) (v := .agg #[.int .i64 (k : Nat), .int .i64 (m : Nat), .bool false, .int .i64 (a : Nat), .int .i64 (N : Nat), .int .i64 0]) rfl (by kernel_rfl) (by kernel_rfl) (by kernel_rfl) (fun _ _ _ h => h) (Or.inl ⟨by rfl, fun w hSw => by (try dsimp only at hSw); go_simp⟩) hS1 ?_
          simp only [Act.put, List.setIfInBounds_toArray, List.set_cons_zero, List.set_cons_succ]
          refine wpAnyH_take (i := 16) (oi := { dst := some 70, op := Go.Op.extract (Go.Operand.tmp 54) 1, type := 4, pos := "law.go:75", after := #[{ on := 14, ground := Go.Ground.data }, { on := 18, ground := Go.Ground.gcOnly Go.Departure.lateStores }], guard := none }) (v := .bool true) rfl (by kernel_rfl) (by kernel_rfl) (by kernel_rfl) (fun _ _ _ h => h) (Or.inl ⟨by rfl, fun w hSw => by (try dsimp only at hSw); go_simp⟩) hS1 ?_
          simp only [Act.put, List.setIfInBounds_toArray, List.set_cons_zero, List.set_cons_succ]
          refine wpAnyH_ready (rs := [17]) (by kernel_rfl) (by simp) (AllReadyH.cons (o := { dst := some 5, op := Go.Op.alloc 48, type := 0, pos := "law.go:75", after := #[], guard := none }) rfl (fun K hK => ?_) AllReadyH.nil)
          go_simp
          have hz := hide (HdN.ofNew bl)
          replace bl := seq_below bl (alloc_below _ (.cells #[.int .i64 0, .int .i64 0, .bool false, .int .i64 0, .int .i64 0, .int .i64 0] 48))
          refine hK.out _ _ (HC.out _ bl) (fun hS1 => ?_)
          (try simp only [Act.put, List.setIfInBounds_toArray, List.set_cons_zero, List.set_cons_succ])
          clear hK K
          generalize v4.heap.size = R at hz ⊢
          generalize v4.alloc (.cells #[.int .i64 0, .int .i64 0, .bool false, .int .i64 0, .int .i64 0, .int .i64 0] 48) = wA at *
          refine wpAnyH_ready (rs := [18]) (by kernel_rfl) (by simp) (AllReadyH.cons (o := { dst := none, op := Go.Op.store 48 (Go.Operand.tmp 5) (Go.Operand.tmp 69), type := 0, pos := "law.go:75", after := #[{ on := 17, ground := Go.Ground.data }, { on := 15, ground := Go.Ground.data }, { on := 13, ground := Go.Ground.chain }, { on := 0, ground := Go.Ground.phase }, { on := 1, ground := Go.Ground.phase }, { on := 2, ground := Go.Ground.phase }, { on := 3, ground := Go.Ground.phase }, { on := 4, ground := Go.Ground.phase }, { on := 5, ground := Go.Ground.phase }, { on := 6, ground := Go.Ground.phase }, { on := 7, ground := Go.Ground.phase }, { on := 8, ground := Go.Ground.phase }, { on := 9, ground := Go.Ground.phase }, { on := 10, ground := Go.Ground.phase }, { on := 11, ground := Go.Ground.phase }, { on := 12, ground := Go.Ground.phase }, { on := 13, ground := Go.Ground.phase }, { on := 14, ground := Go.Ground.phase }, { on := 15, ground := Go.Ground.phase }, { on := 16, ground := Go.Ground.textOnly Go.Departure.lateStores }, { on := 17, ground := Go.Ground.phase }], guard := none }) rfl (fun K hK => ?_) AllReadyH.nil)
          obtain ⟨⟨q0, q1, q2, q3, q4, q5⟩, y⟩ := hz.out.cells
          have y0 := y 0
          have y1 := y 1
          have y2 := y 2
          have y3 := y 3
          have y4 := y 4
          have y5 := y 5
          clear y
          go_simp
          replace bl := hz.out.six bl (.int .i64 (k : Nat)) (.int .i64 (m : Nat)) (.bool false) (.int .i64 (a : Nat)) (.int .i64 (N : Nat)) (.int .i64 0)
          have hdR := Hh.hd_stored hz.out.hd (k : Nat) (m : Nat) false (a : Nat) (N : Nat) 0
          have hRn := hz.out.new
          refine hK.out _ _ (HC.out _ bl) (fun hS1 => ?_)
          (try simp only [Act.put, List.setIfInBounds_toArray, List.set_cons_zero, List.set_cons_succ])
          clear hK K q0 q1 q2 q3 q4 q5 y0 y1 y2 y3 y4 y5 hz
          refine wpAnyH_take (i := 19) (oi := { dst := some 6, op := Go.Op.assign (Go.Operand.tmp 70), type := 4, pos := "law.go:75", after := #[{ on := 16, ground := Go.Ground.data }, { on := 18, ground := Go.Ground.chain }, { on := 0, ground := Go.Ground.phase }, { on := 1, ground := Go.Ground.phase }, { on := 2, ground := Go.Ground.phase }, { on := 3, ground := Go.Ground.phase }, { on := 4, ground := Go.Ground.phase }, { on := 5, ground := Go.Ground.phase }, { on := 6, ground := Go.Ground.phase }, { on := 7, ground := Go.Ground.phase }, { on := 8, ground := Go.Ground.phase }, { on := 9, ground := Go.Ground.phase }, { on := 10, ground := Go.Ground.phase }, { on := 11, ground := Go.Ground.phase }, { on := 12, ground := Go.Ground.phase }, { on := 13, ground := Go.Ground.phase }, { on := 14, ground := Go.Ground.phase }, { on := 15, ground := Go.Ground.phase }, { on := 16, ground := Go.Ground.phase }, { on := 17, ground := Go.Ground.phase }, { on := 18, ground := Go.Ground.phase }], guard := none }) (v := .bool true) rfl (by kernel_rfl) (by kernel_rfl) (by kernel_rfl) (fun _ _ _ h => h) (Or.inl ⟨by rfl, fun w hSw => by (try dsimp only at hSw); go_simp⟩) hS1 ?_
          simp only [Act.put, List.setIfInBounds_toArray, List.set_cons_zero, List.set_cons_succ]
          refine wpAnyH_done (by kernel_rfl) ?_ _
          clear hS1
          generalize ((((((wA.setCell ⟨R, 0, none⟩ (.int .i64 (k : Nat))).setCell ⟨R, 1, none⟩ (.int .i64 (m : Nat))).setCell ⟨R, 2, none⟩ (.bool false)).setCell ⟨R, 3, none⟩ (.int .i64 (a : Nat))).setCell ⟨R, 4, none⟩ (.int .i64 (N : Nat))).setCell ⟨R, 5, none⟩ (.int .i64 0)) = wf at *
          obtain ⟨k0, _, k2, _, _, _⟩ := hdR.cells
          have y0 := Hh.IsHd.free hdR 0
          have y2 := Hh.IsHd.free hdR 2
          have HDR := hide hdR
          have BL := hide bl
          clear hdR bl
          go_upto_region 11 with fail
          clear k0 k2 y0 y2
          have hd11 := hide (hd_set2 (hd_set0 HDR.out 3) false)
          have bl11 : Below w8.heap.size w8 ((wf.setCell ⟨R, 0, none⟩ (.int .i64 3)).setCell ⟨R, 2, none⟩ (.bool false)) := (BL.out.setCell hRn _).setCell hRn _
          clear HDR BL
          generalize ((wf.setCell ⟨R, 0, none⟩ (.int .i64 3)).setCell ⟨R, 2, none⟩ (.bool false)) = w11 at *
          have bl := bl11.drew
          have hS0 := HS11.out _ bl
          refine wp_region_held_drew (S := fun wr => wr.cell? ⟨B, 0, none⟩ = some (.int .i64 (K.S : Nat)) ∧ wr.cell? ⟨B, 1, none⟩ = some (.int .i64 K.a) ∧ wr.cell? ⟨B, 2, none⟩ = some (.int .i64 (K.C : Nat)) ∧ wr.cell? ⟨B, 3, none⟩ = some (.int .i64 (K.D : Nat)) ∧ wr.cell? ⟨B, 4, none⟩ = some (.int .i64 K.g) ∧ wr.cell? ⟨B, 5, none⟩ = some (.int .i64 K.k) ∧ wr.cell? ⟨L, o + 9, none⟩ = some (.int .i64 (s : Nat))) (by kernel_rfl) hS0 (fun hS1 => ?_)
          clear hS0
          refine wpAnyH_take (i := 0) (oi := { dst := some 73, op := Go.Op.move (Go.Operand.tmp 0), type := 87, pos := "law.go:78", after := #[], guard := none }) (v := .pointer (some ⟨L, o, none⟩)) rfl (by kernel_rfl) (by kernel_rfl) (by kernel_rfl) (fun _ _ _ h => h) (Or.inl ⟨by rfl, fun w hSw => by (try dsimp only at hSw); go_simp⟩) hS1 ?_
          simp only [Act.put, List.setIfInBounds_toArray, List.set_cons_zero, List.set_cons_succ]
          refine wpAnyH_take (i := 1) (oi := { dst := some 74, op := Go.Op.move (Go.Operand.tmp 1), type := 27, pos := "law.go:78", after := #[], guard := none }) (v := .pointer (some ⟨B, 0, none⟩)) rfl (by kernel_rfl) (by kernel_rfl) (by kernel_rfl) (fun _ _ _ h => h) (Or.inl ⟨by rfl, fun w hSw => by (try dsimp only at hSw); go_simp⟩) hS1 ?_
          simp only [Act.put, List.setIfInBounds_toArray, List.set_cons_zero, List.set_cons_succ]
          refine wpAnyH_take (i := 2) (oi := { dst := some 75, op := Go.Op.nilCheck (Go.Operand.tmp 74), type := 0, pos := "law.go:78", after := #[{ on := 1, ground := Go.Ground.data }], guard := none }) (v := .pointer (some ⟨B, 0, none⟩)) rfl (by kernel_rfl) (by kernel_rfl) (by kernel_rfl) (fun _ _ _ h => h) (Or.inl ⟨by rfl, fun w hSw => by (try dsimp only at hSw); go_simp⟩) hS1 ?_
          simp only [Act.put, List.setIfInBounds_toArray, List.set_cons_zero, List.set_cons_succ]
          refine wpAnyH_take (i := 3) (oi := { dst := some 76, op := Go.Op.fieldAddr 31 (Go.Operand.tmp 75) 0, type := 0, pos := "law.go:78", after := #[{ on := 2, ground := Go.Ground.data }], guard := none }) (v := .pointer (some ⟨B, 0, none⟩)) rfl (by kernel_rfl) (by kernel_rfl) (by kernel_rfl) (fun _ _ _ h => h) (Or.inl ⟨by rfl, fun w hSw => by (try dsimp only at hSw); go_simp⟩) hS1 ?_
          simp only [Act.put, List.setIfInBounds_toArray, List.set_cons_zero, List.set_cons_succ]
          refine wpAnyH_take (i := 4) (oi := { dst := some 77, op := Go.Op.load 23 (Go.Operand.tmp 76), type := 23, pos := "law.go:78", after := #[{ on := 3, ground := Go.Ground.data }], guard := none }) (v := .agg #[.int .i64 (K.S : Nat), .int .i64 K.a, .int .i64 (K.C : Nat), .int .i64 (K.D : Nat), .int .i64 K.g, .int .i64 K.k]) rfl (by kernel_rfl) (by kernel_rfl) (by kernel_rfl) (fun _ _ _ h => h) (Or.inl ⟨by rfl, fun w hSw => by (try dsimp only at hSw); go_simp⟩) hS1 ?_
          simp only [Act.put, List.setIfInBounds_toArray, List.set_cons_zero, List.set_cons_succ]
          refine wpAnyH_take (i := 5) (oi := { dst := some 78, op := Go.Op.move (Go.Operand.tmp 0), type := 87, pos := "law.go:78", after := #[], guard := none }) (v := .pointer (some ⟨L, o, none⟩)) rfl (by kernel_rfl) (by kernel_rfl) (by kernel_rfl) (fun _ _ _ h => h) (Or.inl ⟨by rfl, fun w hSw => by (try dsimp only at hSw); go_simp⟩) hS1 ?_
          simp only [Act.put, List.setIfInBounds_toArray, List.set_cons_zero, List.set_cons_succ]
          refine wpAnyH_take (i := 6) (oi := { dst := some 79, op := Go.Op.nilCheck (Go.Operand.tmp 78), type := 0, pos := "law.go:78", after := #[{ on := 5, ground := Go.Ground.data }], guard := none }) (v := .pointer (some ⟨L, o, none⟩)) rfl (by kernel_rfl) (by kernel_rfl) (by kernel_rfl) (fun _ _ _ h => h) (Or.inl ⟨by rfl, fun w hSw => by (try dsimp only at hSw); go_simp⟩) hS1 ?_
          simp only [Act.put, List.setIfInBounds_toArray, List.set_cons_zero, List.set_cons_succ]
          refine wpAnyH_take (i := 7) (oi := { dst := some 80, op := Go.Op.fieldAddr 41 (Go.Operand.tmp 79) 5, type := 0, pos := "law.go:78", after := #[{ on := 6, ground := Go.Ground.data }], guard := none }) (v := .pointer (some ⟨L, o + 9, none⟩)) rfl (by kernel_rfl) (by kernel_rfl) (by kernel_rfl) (fun _ _ _ h => h) (Or.inl ⟨by rfl, fun w hSw => by (try dsimp only at hSw); go_simp⟩) hS1 ?_
          simp only [Act.put, List.setIfInBounds_toArray, List.set_cons_zero, List.set_cons_succ]
          refine wpAnyH_take (i := 8) (oi := { dst := some 81, op := Go.Op.load 3 (Go.Operand.tmp 80), type := 3, pos := "law.go:78", after := #[{ on := 7, ground := Go.Ground.data }], guard := none }) (v := .int .i64 (s : Nat)) rfl (by kernel_rfl) (by kernel_rfl) (by kernel_rfl) (fun _ _ _ h => h) (Or.inl ⟨by rfl, fun w hSw => by (try dsimp only at hSw); go_simp⟩) hS1 ?_
          simp only [Act.put, List.setIfInBounds_toArray, List.set_cons_zero, List.set_cons_succ]
          refine wpAnyH_ready (rs := [9]) (by kernel_rfl) (by simp) (AllReadyH.cons (o := { dst := some 82, op := Go.Op.call { callee := Go.Callee.value (Go.Operand.func 21), args := #[Go.Operand.tmp 77, Go.Operand.tmp 81], argTypes := #[23, 3] }, type := 39, pos := "law.go:78", after := #[{ on := 4, ground := Go.Ground.data }, { on := 8, ground := Go.Ground.data }], guard := none }) rfl (fun K hK => ?_) AllReadyH.nil)
          go_simp
          go_at_call 21
          with_reducible refine (c21.out _).mono ?_
          rintro e w12 ⟨P, c, rfl, nb, fa⟩
          (try simp only [])
          replace bl := seq_below bl nb.bel
          have hd12 := hide (Hh.IsHd.below hd11.out (seq_below (Below.refl _ _).drew nb.bel))
          have fin := hide (FIN.out _ bl11 _ _ _ nb fa)
          clear nb fa hd11 bl11
          refine hK.out _ _ (HS11.out _ bl) (fun hS1 => ?_)
          (try simp only [Act.put, List.setIfInBounds_toArray, List.set_cons_zero, List.set_cons_succ])
          clear hK K
          refine wpAnyH_take (i := 10) (oi := { dst := some 83, op := Go.Op.nilCheck (Go.Operand.tmp 73), type := 0, pos := "law.go:78", after := #[{ on := 0, ground := Go.Ground.data }, { on := 0, ground := Go.Ground.phase }, { on := 1, ground := Go.Ground.phase }, { on := 2, ground := Go.Ground.phase }, { on := 3, ground := Go.Ground.phase }, { on := 4, ground := Go.Ground.phase }, { on := 5, ground := Go.Ground.phase }, { on := 6, ground := Go.Ground.phase }, { on := 7, ground := Go.Ground.phase }, { on := 8, ground := Go.Ground.phase }, { on := 9, ground := Go.Ground.phase }], guard := none }) (v := .pointer (some ⟨L, o, none⟩)) rfl (by kernel_rfl) (by kernel_rfl) (by kernel_rfl) (fun _ _ _ h => h) (Or.inl ⟨by rfl, fun w hSw => by (try dsimp only at hSw); go_simp⟩) hS1 ?_
          simp only [Act.put, List.setIfInBounds_toArray, List.set_cons_zero, List.set_cons_succ]
          refine wpAnyH_take (i := 11) (oi := { dst := some 84, op := Go.Op.fieldAddr 41 (Go.Operand.tmp 83) 4, type := 0, pos := "law.go:78", after := #[{ on := 10, ground := Go.Ground.data }, { on := 0, ground := Go.Ground.phase }, { on := 1, ground := Go.Ground.phase }, { on := 2, ground := Go.Ground.phase }, { on := 3, ground := Go.Ground.phase }, { on := 4, ground := Go.Ground.phase }, { on := 5, ground := Go.Ground.phase }, { on := 6, ground := Go.Ground.phase }, { on := 7, ground := Go.Ground.phase }, { on := 8, ground := Go.Ground.phase }, { on := 9, ground := Go.Ground.phase }], guard := none }) (v := .pointer (some ⟨L, o + 8, none⟩)) rfl (by kernel_rfl) (by kernel_rfl) (by kernel_rfl) (fun _ _ _ h => h) (Or.inl ⟨by rfl, fun w hSw => by (try dsimp only at hSw); go_simp⟩) hS1 ?_
          simp only [Act.put, List.setIfInBounds_toArray, List.set_cons_zero, List.set_cons_succ]
          refine wpAnyH_ready (rs := [12]) (by kernel_rfl) (by simp) (AllReadyH.cons (o := { dst := none, op := Go.Op.store 39 (Go.Operand.tmp 84) (Go.Operand.tmp 82), type := 0, pos := "law.go:78", after := #[{ on := 11, ground := Go.Ground.data }, { on := 9, ground := Go.Ground.data }, { on := 9, ground := Go.Ground.chain }, { on := 0, ground := Go.Ground.phase }, { on := 1, ground := Go.Ground.phase }, { on := 2, ground := Go.Ground.phase }, { on := 3, ground := Go.Ground.phase }, { on := 4, ground := Go.Ground.phase }, { on := 5, ground := Go.Ground.phase }, { on := 6, ground := Go.Ground.phase }, { on := 7, ground := Go.Ground.phase }, { on := 8, ground := Go.Ground.phase }, { on := 9, ground := Go.Ground.phase }], guard := none }) rfl (fun K hK => ?_) AllReadyH.nil)
          obtain ⟨s1, s2⟩ := HS8.out _ bl
          go_simp
          obtain ⟨r13, d13, m13, t8, t9⟩ := HB12.out _ (.pointer (some ⟨P, 0, none⟩)) bl
          have x13 := HXL.out R hRn
          have hd13 := hide (((Chg.refl [L] w12).setCell (b := L) (o := o + 8) (.inl (by simp)) (.pointer (some ⟨P, 0, none⟩))).at hd12.out (by simpa using x13.1))
          obtain ⟨⟨l0, l1, l2, l3, l4, l5⟩, _, _⟩ := d13.cells
          refine hK.out _ _ ⟨l0, l1, l2, l3, l4, l5, t9⟩ (fun hS1 => ?_)
          (try simp only [Act.put, List.setIfInBounds_toArray, List.set_cons_zero, List.set_cons_succ])
          clear hK K s1 s2 l0 l1 l2 l3 l4 l5 hd12
          refine wpAnyH_done (by kernel_rfl) ?_ _
          clear hS1
          generalize w12.setCell ⟨L, o + 8, none⟩ (.pointer (some ⟨P, 0, none⟩)) = w13 at *
          have hR13 : R < w13.heap.size := lt_of_block hd13.out
          have KEEP : Hid (∀ wr, Chg [M, G] w13 wr → (wr.cell? ⟨B, 6, none⟩ = some (.pointer (some ⟨M, 0, none⟩)) ∧ wr.cell? ⟨L, o + 9, none⟩ = some (.int .i64 (s : Nat)) ∧ wr.cell? ⟨L, o + 8, none⟩ = some (.pointer (some ⟨P, 0, none⟩)) ∧ wr.cell? ⟨R, 0, none⟩ = some (.int .i64 3) ∧ wr.cell? ⟨R, 1, none⟩ = some (.int .i64 (m : Nat)) ∧ wr.cell? ⟨R, 2, none⟩ = some (.bool false) ∧ wr.cell? ⟨R, 3, none⟩ = some (.int .i64 (a : Nat)) ∧ wr.cell? ⟨R, 4, none⟩ = some (.int .i64 (N : Nat)) ∧ wr.cell? ⟨R, 5, none⟩ = some (.int .i64 0))) := fun wr cg => by
            have z := HNE.out
            have z2 : B ∉ [M, G] := by simp; exact ⟨z.2.2.2.1, z.2.2.2.2⟩
            have z3 : L ∉ [M, G] := by simp; exact ⟨Ne.symm z.2.1, Ne.symm z.2.2.1⟩
            have z4 : R ∉ [M, G] := by simp; exact ⟨x13.2.1, x13.2.2.1⟩
            have e : ∀ i, wr.cell? ⟨L, i, none⟩ = w13.cell? ⟨L, i, none⟩ := fun i => World.cell?_of_block (w := w13) (cg.block L (RowM.lt r13) z3)
            have q := Hh.IsHd.cells (cg.at hd13.out z4)
            exact ⟨(d13.chg cg z2).cells.2.1, by rw [e]; exact t9, by rw [e]; exact t8, q.1, q.2.1, q.2.2.1, q.2.2.2.1, q.2.2.2.2.1, q.2.2.2.2.2⟩
          have D13 := hide d13
          have M13 := hide m13
          clear r13 d13 m13 t8 t9 x13 hRn bl hR13 hd13
          go_upto_region 12 with fail
          have bl13 : Below w13.heap.size w13 w13.drew := (Below.refl _ _).drew
          have cg : Chg [M, G] w13 w13.drew := Chg.of_below bl13
          go_region_held (fun wr => (wr.cell? ⟨B, 6, none⟩ = some (.pointer (some ⟨M, 0, none⟩)) ∧ wr.cell? ⟨L, o + 9, none⟩ = some (.int .i64 (s : Nat)) ∧ wr.cell? ⟨L, o + 8, none⟩ = some (.pointer (some ⟨P, 0, none⟩)) ∧ wr.cell? ⟨R, 0, none⟩ = some (.int .i64 3) ∧ wr.cell? ⟨R, 1, none⟩ = some (.int .i64 (m : Nat)) ∧ wr.cell? ⟨R, 2, none⟩ = some (.bool false) ∧ wr.cell? ⟨R, 3, none⟩ = some (.int .i64 (a : Nat)) ∧ wr.cell? ⟨R, 4, none⟩ = some (.int .i64 (N : Nat)) ∧ wr.cell? ⟨R, 5, none⟩ = some (.int .i64 0))) (with_reducible exact KEEP.out _ cg) (first
            | (go_at_call 16; with_reducible refine (c16b.out _ _ D13.out bl13).mono ?_; rintro e w14 ⟨rfl, b⟩; replace bl13 := seq_below bl13 b; replace cg := Chg.then_below cg b; clear b)
            | (go_at_call 25; with_reducible refine (c25.out _).mono ?_; rintro e w14 ⟨rfl, b⟩; replace bl13 := seq_below bl13 b; replace cg := Chg.then_below cg b; clear b)
            | (go_at_call 24; with_reducible refine (c24.out _ _ M13.out bl13).mono ?_; rintro e w15 ⟨rfl, mm, cg2⟩; replace cg := cg2; clear cg2))
          go_wp2
          go_ret
          obtain ⟨f1, f2, f3, f4⟩ := fin.out _ cg
          rw [HCF.out] at f1
          exact ⟨rfl, P, f1, f2, f3, by rw [HVE.out, HHD.out]; exact mm, f4⟩
        · go_simp
          have hz := hide (HdN.ofNew bl)
          replace bl := seq_below bl (alloc_below _ (.cells #[.int .i64 0, .int .i64 0, .bool false, .int .i64 0, .int .i64 0, .int .i64 0] 48))
          refine hK.out _ _ (HC.out _ bl) (fun hS1 => ?_)
          (try simp only [Act.put, List.setIfInBounds_toArray, List.set_cons_zero, List.set_cons_succ])
          clear hK K
          generalize v2.heap.size = R at hz ⊢
          generalize v2.alloc (.cells #[.int .i64 0, .int .i64 0, .bool false, .int .i64 0, .int .i64 0, .int .i64 0] 48) = wA at *
          refine wpAnyH_ready (rs := [13]) (by kernel_rfl) (by simp) (AllReadyH.cons (o := { dst := some 68, op := Go.Op.call { callee := Go.Callee.value (Go.Operand.func 15), args := #[Go.Operand.tmp 67], argTypes := #[35] }, type := 49, pos := "law.go:75", after := #[{ on := 12, ground := Go.Ground.data }, { on := 10, ground := Go.Ground.chain }], guard := none }) rfl (fun K hK => ?_) AllReadyH.nil)
          go_simp
          go_at_call 15
          with_reducible refine (c15.out _).mono ?_
          rintro e v4 ⟨rfl, b⟩
          (try simp only [])
          replace bl := seq_below bl b
          replace hz := hide (hz.out.below b)
          clear b
          refine hK.out _ _ (HC.out _ bl) (fun hS1 => ?_)
          (try simp only [Act.put, List.setIfInBounds_toArray, List.set_cons_zero, List.set_cons_succ])
          clear hK K
          refine wpAnyH_take (i := 14) (oi := { dst := some 54, op := Go.Op.move (Go.Operand.tmp 68), type := 49, pos := "law.go:75", after := #[{ on := 13, ground := Go.Ground.data }], guard := none }) (v := .tuple #[.agg #[.int .i64 (k : Nat), .int .i64 (m : Nat), .bool false, .int .i64 (a : Nat), .int .i64 (N : Nat), .int .i64 0], .bool true]) rfl (by kernel_rfl) (by kernel_rfl) (by kernel_rfl) (fun _ _ _ h => h) (Or.inl ⟨by rfl, fun w hSw => by (try dsimp only at hSw); go_simp⟩) hS1 ?_
          simp only [Act.put, List.setIfInBounds_toArray, List.set_cons_zero, List.set_cons_succ]
          refine wpAnyH_take (i := 15) (oi := { dst := some 69, op := Go.Op.extract (Go.Operand.tmp 54) 0, type := 48, pos := "law.go:75", after := #[{ on := 14, ground := Go.Ground.data }], guard := none }) (v := .agg #[.int .i64 (k : Nat), .int .i64 (m : Nat), .bool false, .int .i64 (a : Nat), .int .i64 (N : Nat), .int .i64 0]) rfl (by kernel_rfl) (by kernel_rfl) (by kernel_rfl) (fun _ _ _ h => h) (Or.inl ⟨by rfl, fun w hSw => by (try dsimp only at hSw); go_simp⟩) hS1 ?_
          simp only [Act.put, List.setIfInBounds_toArray, List.set_cons_zero, List.set_cons_succ]
          refine wpAnyH_take (i := 16) (oi := { dst := some 70, op := Go.Op.extract (Go.Operand.tmp 54) 1, type := 4, pos := "law.go:75", after := #[{ on := 14, ground := Go.Ground.data }, { on := 18, ground := Go.Ground.gcOnly Go.Departure.lateStores }], guard := none }) (v := .bool true) rfl (by kernel_rfl) (by kernel_rfl) (by kernel_rfl) (fun _ _ _ h => h) (Or.inl ⟨by rfl, fun w hSw => by (try dsimp only at hSw); go_simp⟩) hS1 ?_
          simp only [Act.put, List.setIfInBounds_toArray, List.set_cons_zero, List.set_cons_succ]
          refine wpAnyH_ready (rs := [18]) (by kernel_rfl) (by simp) (AllReadyH.cons (o := { dst := none, op := Go.Op.store 48 (Go.Operand.tmp 5) (Go.Operand.tmp 69), type := 0, pos := "law.go:75", after := #[{ on := 17, ground := Go.Ground.data }, { on := 15, ground := Go.Ground.data }, { on := 13, ground := Go.Ground.chain }, { on := 0, ground := Go.Ground.phase }, { on := 1, ground := Go.Ground.phase }, { on := 2, ground := Go.Ground.phase }, { on := 3, ground := Go.Ground.phase }, { on := 4, ground := Go.Ground.phase }, { on := 5, ground := Go.Ground.phase }, { on := 6, ground := Go.Ground.phase }, { on := 7, ground := Go.Ground.phase }, { on := 8, ground := Go.Ground.phase }, { on := 9, ground := Go.Ground.phase }, { on := 10, ground := Go.Ground.phase }, { on := 11, ground := Go.Ground.phase }, { on := 12, ground := Go.Ground.phase }, { on := 13, ground := Go.Ground.phase }, { on := 14, ground := Go.Ground.phase }, { on := 15, ground := Go.Ground.phase }, { on := 16, ground := Go.Ground.textOnly Go.Departure.lateStores }, { on := 17, ground := Go.Ground.phase }], guard := none }) rfl (fun K hK => ?_) AllReadyH.nil)
          obtain ⟨⟨q0, q1, q2, q3, q4, q5⟩, y⟩ := hz.out.cells
          have y0 := y 0
          have y1 := y 1
          have y2 := y 2
          have y3 := y 3
          have y4 := y 4
          have y5 := y 5
          clear y
          go_simp
          replace bl := hz.out.six bl (.int .i64 (k : Nat)) (.int .i64 (m : Nat)) (.bool false) (.int .i64 (a : Nat)) (.int .i64 (N : Nat)) (.int .i64 0)
          have hdR := Hh.hd_stored hz.out.hd (k : Nat) (m : Nat) false (a : Nat) (N : Nat) 0
          have hRn := hz.out.new
          refine hK.out _ _ (HC.out _ bl) (fun hS1 => ?_)
          (try simp only [Act.put, List.setIfInBounds_toArray, List.set_cons_zero, List.set_cons_succ])
          clear hK K q0 q1 q2 q3 q4 q5 y0 y1 y2 y3 y4 y5 hz
          refine wpAnyH_take (i := 19) (oi := { dst := some 6, op := Go.Op.assign (Go.Operand.tmp 70), type := 4, pos := "law.go:75", after := #[{ on := 16, ground := Go.Ground.data }, { on := 18, ground := Go.Ground.chain }, { on := 0, ground := Go.Ground.phase }, { on := 1, ground := Go.Ground.phase }, { on := 2, ground := Go.Ground.phase }, { on := 3, ground := Go.Ground.phase }, { on := 4, ground := Go.Ground.phase }, { on := 5, ground := Go.Ground.phase }, { on := 6, ground := Go.Ground.phase }, { on := 7, ground := Go.Ground.phase }, { on := 8, ground := Go.Ground.phase }, { on := 9, ground := Go.Ground.phase }, { on := 10, ground := Go.Ground.phase }, { on := 11, ground := Go.Ground.phase }, { on := 12, ground := Go.Ground.phase }, { on := 13, ground := Go.Ground.phase }, { on := 14, ground := Go.Ground.phase }, { on := 15, ground := Go.Ground.phase }, { on := 16, ground := Go.Ground.phase }, { on := 17, ground := Go.Ground.phase }, { on := 18, ground := Go.Ground.phase }], guard := none }) (v := .bool true) rfl (by kernel_rfl) (by kernel_rfl) (by kernel_rfl) (fun _ _ _ h => h) (Or.inl ⟨by rfl, fun w hSw => by (try dsimp only at hSw); go_simp⟩) hS1 ?_
          simp only [Act.put, List.setIfInBounds_toArray, List.set_cons_zero, List.set_cons_succ]
          refine wpAnyH_done (by kernel_rfl) ?_ _
          clear hS1
          generalize ((((((v4.setCell ⟨R, 0, none⟩ (.int .i64 (k : Nat))).setCell ⟨R, 1, none⟩ (.int .i64 (m : Nat))).setCell ⟨R, 2, none⟩ (.bool false)).setCell ⟨R, 3, none⟩ (.int .i64 (a : Nat))).setCell ⟨R, 4, none⟩ (.int .i64 (N : Nat))).setCell ⟨R, 5, none⟩ (.int .i64 0)) = wf at *
          obtain ⟨k0, _, k2, _, _, _⟩ := hdR.cells
          have y0 := Hh.IsHd.free hdR 0
          have y2 := Hh.IsHd.free hdR 2
          have HDR := hide hdR
          have BL := hide bl
          clear hdR bl
          go_upto_region 11 with fail
          clear k0 k2 y0 y2
          have hd11 := hide (hd_set2 (hd_set0 HDR.out 3) false)
          have bl11 : Below w8.heap.size w8 ((wf.setCell ⟨R, 0, none⟩ (.int .i64 3)).setCell ⟨R, 2, none⟩ (.bool false)) := (BL.out.setCell hRn _).setCell hRn _
          clear HDR BL
          generalize ((wf.setCell ⟨R, 0, none⟩ (.int .i64 3)).setCell ⟨R, 2, none⟩ (.bool false)) = w11 at *
          have bl := bl11.drew
          have hS0 := HS11.out _ bl
          refine wp_region_held_drew (S := fun wr => wr.cell? ⟨B, 0, none⟩ = some (.int .i64 (K.S : Nat)) ∧ wr.cell? ⟨B, 1, none⟩ = some (.int .i64 K.a) ∧ wr.cell? ⟨B, 2, none⟩ = some (.int .i64 (K.C : Nat)) ∧ wr.cell? ⟨B, 3, none⟩ = some (.int .i64 (K.D : Nat)) ∧ wr.cell? ⟨B, 4, none⟩ = some (.int .i64 K.g) ∧ wr.cell? ⟨B, 5, none⟩ = some (.int .i64 K.k) ∧ wr.cell? ⟨L, o + 9, none⟩ = some (.int .i64 (s : Nat))) (by kernel_rfl) hS0 (fun hS1 => ?_)
          clear hS0
          refine wpAnyH_take (i := 0) (oi := { dst := some 73, op := Go.Op.move (Go.Operand.tmp 0), type := 87, pos := "law.go:78", after := #[], guard := none }) (v := .pointer (some ⟨L, o, none⟩)) rfl (by kernel_rfl) (by kernel_rfl) (by kernel_rfl) (fun _ _ _ h => h) (Or.inl ⟨by rfl, fun w hSw => by (try dsimp only at hSw); go_simp⟩) hS1 ?_
          simp only [Act.put, List.setIfInBounds_toArray, List.set_cons_zero, List.set_cons_succ]
          refine wpAnyH_take (i := 1) (oi := { dst := some 74, op := Go.Op.move (Go.Operand.tmp 1), type := 27, pos := "law.go:78", after := #[], guard := none }) (v := .pointer (some ⟨B, 0, none⟩)) rfl (by kernel_rfl) (by kernel_rfl) (by kernel_rfl) (fun _ _ _ h => h) (Or.inl ⟨by rfl, fun w hSw => by (try dsimp only at hSw); go_simp⟩) hS1 ?_
          simp only [Act.put, List.setIfInBounds_toArray, List.set_cons_zero, List.set_cons_succ]
          refine wpAnyH_take (i := 2) (oi := { dst := some 75, op := Go.Op.nilCheck (Go.Operand.tmp 74), type := 0, pos := "law.go:78", after := #[{ on := 1, ground := Go.Ground.data }], guard := none }) (v := .pointer (some ⟨B, 0, none⟩)) rfl (by kernel_rfl) (by kernel_rfl) (by kernel_rfl) (fun _ _ _ h => h) (Or.inl ⟨by rfl, fun w hSw => by (try dsimp only at hSw); go_simp⟩) hS1 ?_
          simp only [Act.put, List.setIfInBounds_toArray, List.set_cons_zero, List.set_cons_succ]
          refine wpAnyH_take (i := 3) (oi := { dst := some 76, op := Go.Op.fieldAddr 31 (Go.Operand.tmp 75) 0, type := 0, pos := "law.go:78", after := #[{ on := 2, ground := Go.Ground.data }], guard := none }) (v := .pointer (some ⟨B, 0, none⟩)) rfl (by kernel_rfl) (by kernel_rfl) (by kernel_rfl) (fun _ _ _ h => h) (Or.inl ⟨by rfl, fun w hSw => by (try dsimp only at hSw); go_simp⟩) hS1 ?_
          simp only [Act.put, List.setIfInBounds_toArray, List.set_cons_zero, List.set_cons_succ]
          refine wpAnyH_take (i := 4) (oi := { dst := some 77, op := Go.Op.load 23 (Go.Operand.tmp 76), type := 23, pos := "law.go:78", after := #[{ on := 3, ground := Go.Ground.data }], guard := none }) (v := .agg #[.int .i64 (K.S : Nat), .int .i64 K.a, .int .i64 (K.C : Nat), .int .i64 (K.D : Nat), .int .i64 K.g, .int .i64 K.k]) rfl (by kernel_rfl) (by kernel_rfl) (by kernel_rfl) (fun _ _ _ h => h) (Or.inl ⟨by rfl, fun w hSw => by (try dsimp only at hSw); go_simp⟩) hS1 ?_
          simp only [Act.put, List.setIfInBounds_toArray, List.set_cons_zero, List.set_cons_succ]
          refine wpAnyH_take (i := 5) (oi := { dst := some 78, op := Go.Op.move (Go.Operand.tmp 0), type := 87, pos := "law.go:78", after := #[], guard := none }) (v := .pointer (some ⟨L, o, none⟩)) rfl (by kernel_rfl) (by kernel_rfl) (by kernel_rfl) (fun _ _ _ h => h) (Or.inl ⟨by rfl, fun w hSw => by (try dsimp only at hSw); go_simp⟩) hS1 ?_
          simp only [Act.put, List.setIfInBounds_toArray, List.set_cons_zero, List.set_cons_succ]
          refine wpAnyH_take (i := 6) (oi := { dst := some 79, op := Go.Op.nilCheck (Go.Operand.tmp 78), type := 0, pos := "law.go:78", after := #[{ on := 5, ground := Go.Ground.data }], guard := none }) (v := .pointer (some ⟨L, o, none⟩)) rfl (by kernel_rfl) (by kernel_rfl) (by kernel_rfl) (fun _ _ _ h => h) (Or.inl ⟨by rfl, fun w hSw => by (try dsimp only at hSw); go_simp⟩) hS1 ?_
          simp only [Act.put, List.setIfInBounds_toArray, List.set_cons_zero, List.set_cons_succ]
          refine wpAnyH_take (i := 7) (oi := { dst := some 80, op := Go.Op.fieldAddr 41 (Go.Operand.tmp 79) 5, type := 0, pos := "law.go:78", after := #[{ on := 6, ground := Go.Ground.data }], guard := none }) (v := .pointer (some ⟨L, o + 9, none⟩)) rfl (by kernel_rfl) (by kernel_rfl) (by kernel_rfl) (fun _ _ _ h => h) (Or.inl ⟨by rfl, fun w hSw => by (try dsimp only at hSw); go_simp⟩) hS1 ?_
          simp only [Act.put, List.setIfInBounds_toArray, List.set_cons_zero, List.set_cons_succ]
          refine wpAnyH_take (i := 8) (oi := { dst := some 81, op := Go.Op.load 3 (Go.Operand.tmp 80), type := 3, pos := "law.go:78", after := #[{ on := 7, ground := Go.Ground.data }], guard := none }) (v := .int .i64 (s : Nat)) rfl (by kernel_rfl) (by kernel_rfl) (by kernel_rfl) (fun _ _ _ h => h) (Or.inl ⟨by rfl, fun w hSw => by (try dsimp only at hSw); go_simp⟩) hS1 ?_
          simp only [Act.put, List.setIfInBounds_toArray, List.set_cons_zero, List.set_cons_succ]
          refine wpAnyH_ready (rs := [9]) (by kernel_rfl) (by simp) (AllReadyH.cons (o := { dst := some 82, op := Go.Op.call { callee := Go.Callee.value (Go.Operand.func 21), args := #[Go.Operand.tmp 77, Go.Operand.tmp 81], argTypes := #[23, 3] }, type := 39, pos := "law.go:78", after := #[{ on := 4, ground := Go.Ground.data }, { on := 8, ground := Go.Ground.data }], guard := none }) rfl (fun K hK => ?_) AllReadyH.nil)
          go_simp
          go_at_call 21
          with_reducible refine (c21.out _).mono ?_
          rintro e w12 ⟨P, c, rfl, nb, fa⟩
          (try simp only [])
          replace bl := seq_below bl nb.bel
          have hd12 := hide (Hh.IsHd.below hd11.out (seq_below (Below.refl _ _).drew nb.bel))
          have fin := hide (FIN.out _ bl11 _ _ _ nb fa)
          clear nb fa hd11 bl11
          refine hK.out _ _ (HS11.out _ bl) (fun hS1 => ?_)
          (try simp only [Act.put, List.setIfInBounds_toArray, List.set_cons_zero, List.set_cons_succ])
          clear hK K
          refine wpAnyH_take (i := 10) (oi := { dst := some 83, op := Go.Op.nilCheck (Go.Operand.tmp 73), type := 0, pos := "law.go:78", after := #[{ on := 0, ground := Go.Ground.data }, { on := 0, ground := Go.Ground.phase }, { on := 1, ground := Go.Ground.phase }, { on := 2, ground := Go.Ground.phase }, { on := 3, ground := Go.Ground.phase }, { on := 4, ground := Go.Ground.phase }, { on := 5, ground := Go.Ground.phase }, { on := 6, ground := Go.Ground.phase }, { on := 7, ground := Go.Ground.phase }, { on := 8, ground := Go.Ground.phase }, { on := 9, ground := Go.Ground.phase }], guard := none }) (v := .pointer (some ⟨L, o, none⟩)) rfl (by kernel_rfl) (by kernel_rfl) (by kernel_rfl) (fun _ _ _ h => h) (Or.inl ⟨by rfl, fun w hSw => by (try dsimp only at hSw); go_simp⟩) hS1 ?_
          simp only [Act.put, List.setIfInBounds_toArray, List.set_cons_zero, List.set_cons_succ]
          refine wpAnyH_take (i := 11) (oi := { dst := some 84, op := Go.Op.fieldAddr 41 (Go.Operand.tmp 83) 4, type := 0, pos := "law.go:78", after := #[{ on := 10, ground := Go.Ground.data }, { on := 0, ground := Go.Ground.phase }, { on := 1, ground := Go.Ground.phase }, { on := 2, ground := Go.Ground.phase }, { on := 3, ground := Go.Ground.phase }, { on := 4, ground := Go.Ground.phase }, { on := 5, ground := Go.Ground.phase }, { on := 6, ground := Go.Ground.phase }, { on := 7, ground := Go.Ground.phase }, { on := 8, ground := Go.Ground.phase }, { on := 9, ground := Go.Ground.phase }], guard := none }) (v := .pointer (some ⟨L, o + 8, none⟩)) rfl (by kernel_rfl) (by kernel_rfl) (by kernel_rfl) (fun _ _ _ h => h) (Or.inl ⟨by rfl, fun w hSw => by (try dsimp only at hSw); go_simp⟩) hS1 ?_
          simp only [Act.put, List.setIfInBounds_toArray, List.set_cons_zero, List.set_cons_succ]
          refine wpAnyH_ready (rs := [12]) (by kernel_rfl) (by simp) (AllReadyH.cons (o := { dst := none, op := Go.Op.store 39 (Go.Operand.tmp 84) (Go.Operand.tmp 82), type := 0, pos := "law.go:78", after := #[{ on := 11, ground := Go.Ground.data }, { on := 9, ground := Go.Ground.data }, { on := 9, ground := Go.Ground.chain }, { on := 0, ground := Go.Ground.phase }, { on := 1, ground := Go.Ground.phase }, { on := 2, ground := Go.Ground.phase }, { on := 3, ground := Go.Ground.phase }, { on := 4, ground := Go.Ground.phase }, { on := 5, ground := Go.Ground.phase }, { on := 6, ground := Go.Ground.phase }, { on := 7, ground := Go.Ground.phase }, { on := 8, ground := Go.Ground.phase }, { on := 9, ground := Go.Ground.phase }], guard := none }) rfl (fun K hK => ?_) AllReadyH.nil)
          obtain ⟨s1, s2⟩ := HS8.out _ bl
          go_simp
          obtain ⟨r13, d13, m13, t8, t9⟩ := HB12.out _ (.pointer (some ⟨P, 0, none⟩)) bl
          have x13 := HXL.out R hRn
          have hd13 := hide (((Chg.refl [L] w12).setCell (b := L) (o := o + 8) (.inl (by simp)) (.pointer (some ⟨P, 0, none⟩))).at hd12.out (by simpa using x13.1))
          obtain ⟨⟨l0, l1, l2, l3, l4, l5⟩, _, _⟩ := d13.cells
          refine hK.out _ _ ⟨l0, l1, l2, l3, l4, l5, t9⟩ (fun hS1 => ?_)
          (try simp only [Act.put, List.setIfInBounds_toArray, List.set_cons_zero, List.set_cons_succ])
          clear hK K s1 s2 l0 l1 l2 l3 l4 l5 hd12
          refine wpAnyH_done (by kernel_rfl) ?_ _
          clear hS1
          generalize w12.setCell ⟨L, o + 8, none⟩ (.pointer (some ⟨P, 0, none⟩)) = w13 at *
          have hR13 : R < w13.heap.size := lt_of_block hd13.out
          have KEEP : Hid (∀ wr, Chg [M, G] w13 wr → (wr.cell? ⟨B, 6, none⟩ = some (.pointer (some ⟨M, 0, none⟩)) ∧ wr.cell? ⟨L, o + 9, none⟩ = some (.int .i64 (s : Nat)) ∧ wr.cell? ⟨L, o + 8, none⟩ = some (.pointer (some ⟨P, 0, none⟩)) ∧ wr.cell? ⟨R, 0, none⟩ = some (.int .i64 3) ∧ wr.cell? ⟨R, 1, none⟩ = some (.int .i64 (m : Nat)) ∧ wr.cell? ⟨R, 2, none⟩ = some (.bool false) ∧ wr.cell? ⟨R, 3, none⟩ = some (.int .i64 (a : Nat)) ∧ wr.cell? ⟨R, 4, none⟩ = some (.int .i64 (N : Nat)) ∧ wr.cell? ⟨R, 5, none⟩ = some (.int .i64 0))) := fun wr cg => by
            have z := HNE.out
            have z2 : B ∉ [M, G] := by simp; exact ⟨z.2.2.2.1, z.2.2.2.2⟩
            have z3 : L ∉ [M, G] := by simp; exact ⟨Ne.symm z.2.1, Ne.symm z.2.2.1⟩
            have z4 : R ∉ [M, G] := by simp; exact ⟨x13.2.1, x13.2.2.1⟩
            have e : ∀ i, wr.cell? ⟨L, i, none⟩ = w13.cell? ⟨L, i, none⟩ := fun i => World.cell?_of_block (w := w13) (cg.block L (RowM.lt r13) z3)
            have q := Hh.IsHd.cells (cg.at hd13.out z4)
            exact ⟨(d13.chg cg z2).cells.2.1, by rw [e]; exact t9, by rw [e]; exact t8, q.1, q.2.1, q.2.2.1, q.2.2.2.1, q.2.2.2.2.1, q.2.2.2.2.2⟩
          have D13 := hide d13
          have M13 := hide m13
          clear r13 d13 m13 t8 t9 x13 hRn bl hR13 hd13
          go_upto_region 12 with fail
          have bl13 : Below w13.heap.size w13 w13.drew := (Below.refl _ _).drew
          have cg : Chg [M, G] w13 w13.drew := Chg.of_below bl13
          go_region_held (fun wr => (wr.cell? ⟨B, 6, none⟩ = some (.pointer (some ⟨M, 0, none⟩)) ∧ wr.cell? ⟨L, o + 9, none⟩ = some (.int .i64 (s : Nat)) ∧ wr.cell? ⟨L, o + 8, none⟩ = some (.pointer (some ⟨P, 0, none⟩)) ∧ wr.cell? ⟨R, 0, none⟩ = some (.int .i64 3) ∧ wr.cell? ⟨R, 1, none⟩ = some (.int .i64 (m : Nat)) ∧ wr.cell? ⟨R, 2, none⟩ = some (.bool false) ∧ wr.cell? ⟨R, 3, none⟩ = some (.int .i64 (a : Nat)) ∧ wr.cell? ⟨R, 4, none⟩ = some (.int .i64 (N : Nat)) ∧ wr.cell? ⟨R, 5, none⟩ = some (.int .i64 0))) (with_reducible exact KEEP.out _ cg) (first
            | (go_at_call 16; with_reducible refine (c16b.out _ _ D13.out bl13).mono ?_; rintro e w14 ⟨rfl, b⟩; replace bl13 := seq_below bl13 b; replace cg := Chg.then_below cg b; clear b)
            | (go_at_call 25; with_reducible refine (c25.out _).mono ?_; rintro e w14 ⟨rfl, b⟩; replace bl13 := seq_below bl13 b; replace cg := Chg.then_below cg b; clear b)
            | (go_at_call 24; with_reducible refine (c24.out _ _ M13.out bl13).mono ?_; rintro e w15 ⟨rfl, mm, cg2⟩; replace cg := cg2; clear cg2))
          go_wp2
          go_ret
          obtain ⟨f1, f2, f3, f4⟩ := fin.out _ cg
          rw [HCF.out] at f1
          exact ⟨rfl, P, f1, f2, f3, by rw [HVE.out, HHD.out]; exact mm, f4⟩
      · go_simp
        have hz := hide (HdN.ofNew bl)
        replace bl := seq_below bl (alloc_below _ (.cells #[.int .i64 0, .int .i64 0, .bool false, .int .i64 0, .int .i64 0, .int .i64 0] 48))
        replace hq := words_below hq (alloc_below _ (.cells #[.int .i64 0, .int .i64 0, .bool false, .int .i64 0, .int .i64 0, .int .i64 0] 48))
        refine hK.out _ _ (HC.out _ bl) (fun hS1 => ?_)
        (try simp only [Act.put, List.setIfInBounds_toArray, List.set_cons_zero, List.set_cons_succ])
        clear hK K
        generalize v2.heap.size = R at hz ⊢
        generalize v2.alloc (.cells #[.int .i64 0, .int .i64 0, .bool false, .int .i64 0, .int .i64 0, .int .i64 0] 48) = wA at *
        refine wpAnyH_ready (rs := [12]) (by kernel_rfl) (by simp) (AllReadyH.cons (o := { dst := some 67, op := Go.Op.load 35 (Go.Operand.tmp 66), type := 35, pos := "law.go:75", after := #[{ on := 11, ground := Go.Ground.data }], guard := none }) rfl (fun K hK => ?_) AllReadyH.nil)
        have hqc := word_cell hq HDL.out HWD.out
        go_simp
        refine hK.out _ _ (HC.out _ bl) (fun hS1 => ?_)
        (try simp only [Act.put, List.setIfInBounds_toArray, List.set_cons_zero, List.set_cons_succ])
        clear hK K hqc hq
        refine wpAnyH_ready (rs := [13]) (by kernel_rfl) (by simp) (AllReadyH.cons (o := { dst := some 68, op := Go.Op.call { callee := Go.Callee.value (Go.Operand.func 15), args := #[Go.Operand.tmp 67], argTypes := #[35] }, type := 49, pos := "law.go:75", after := #[{ on := 12, ground := Go.Ground.data }, { on := 10, ground := Go.Ground.chain }], guard := none }) rfl (fun K hK => ?_) AllReadyH.nil)
        go_simp
        go_at_call 15
        with_reducible refine (c15.out _).mono ?_
        rintro e v4 ⟨rfl, b⟩
        (try simp only [])
        replace bl := seq_below bl b
        replace hz := hide (hz.out.below b)
        clear b
        refine hK.out _ _ (HC.out _ bl) (fun hS1 => ?_)
        (try simp only [Act.put, List.setIfInBounds_toArray, List.set_cons_zero, List.set_cons_succ])
        clear hK K
        refine wpAnyH_take (i := 14) (oi := { dst := some 54, op := Go.Op.move (Go.Operand.tmp 68), type := 49, pos := "law.go:75", after := #[{ on := 13, ground := Go.Ground.data }], guard := none }) (v := .tuple #[.agg #[.int .i64 (k : Nat), .int .i64 (m : Nat), .bool false, .int .i64 (a : Nat), .int .i64 (N : Nat), .int .i64 0], .bool true]) rfl (by kernel_rfl) (by kernel_rfl) (by kernel_rfl) (fun _ _ _ h => h) (Or.inl ⟨by rfl, fun w hSw => by (try dsimp only at hSw); go_simp⟩) hS1 ?_
        simp only [Act.put, List.setIfInBounds_toArray, List.set_cons_zero, List.set_cons_succ]
        refine wpAnyH_take (i := 15) (oi := { dst := some 69, op := Go.Op.extract (Go.Operand.tmp 54) 0, type := 48, pos := "law.go:75", after := #[{ on := 14, ground := Go.Ground.data }], guard := none }) (v := .agg #[.int .i64 (k : Nat), .int .i64 (m : Nat), .bool false, .int .i64 (a : Nat), .int .i64 (N : Nat), .int .i64 0]) rfl (by kernel_rfl) (by kernel_rfl) (by kernel_rfl) (fun _ _ _ h => h) (Or.inl ⟨by rfl, fun w hSw => by (try dsimp only at hSw); go_simp⟩) hS1 ?_
        simp only [Act.put, List.setIfInBounds_toArray, List.set_cons_zero, List.set_cons_succ]
        refine wpAnyH_take (i := 16) (oi := { dst := some 70, op := Go.Op.extract (Go.Operand.tmp 54) 1, type := 4, pos := "law.go:75", after := #[{ on := 14, ground := Go.Ground.data }, { on := 18, ground := Go.Ground.gcOnly Go.Departure.lateStores }], guard := none }) (v := .bool true) rfl (by kernel_rfl) (by kernel_rfl) (by kernel_rfl) (fun _ _ _ h => h) (Or.inl ⟨by rfl, fun w hSw => by (try dsimp only at hSw); go_simp⟩) hS1 ?_
        simp only [Act.put, List.setIfInBounds_toArray, List.set_cons_zero, List.set_cons_succ]
        refine wpAnyH_ready (rs := [18]) (by kernel_rfl) (by simp) (AllReadyH.cons (o := { dst := none, op := Go.Op.store 48 (Go.Operand.tmp 5) (Go.Operand.tmp 69), type := 0, pos := "law.go:75", after := #[{ on := 17, ground := Go.Ground.data }, { on := 15, ground := Go.Ground.data }, { on := 13, ground := Go.Ground.chain }, { on := 0, ground := Go.Ground.phase }, { on := 1, ground := Go.Ground.phase }, { on := 2, ground := Go.Ground.phase }, { on := 3, ground := Go.Ground.phase }, { on := 4, ground := Go.Ground.phase }, { on := 5, ground := Go.Ground.phase }, { on := 6, ground := Go.Ground.phase }, { on := 7, ground := Go.Ground.phase }, { on := 8, ground := Go.Ground.phase }, { on := 9, ground := Go.Ground.phase }, { on := 10, ground := Go.Ground.phase }, { on := 11, ground := Go.Ground.phase }, { on := 12, ground := Go.Ground.phase }, { on := 13, ground := Go.Ground.phase }, { on := 14, ground := Go.Ground.phase }, { on := 15, ground := Go.Ground.phase }, { on := 16, ground := Go.Ground.textOnly Go.Departure.lateStores }, { on := 17, ground := Go.Ground.phase }], guard := none }) rfl (fun K hK => ?_) AllReadyH.nil)
        obtain ⟨⟨q0, q1, q2, q3, q4, q5⟩, y⟩ := hz.out.cells
        have y0 := y 0
        have y1 := y 1
        have y2 := y 2
        have y3 := y 3
        have y4 := y 4
        have y5 := y 5
        clear y
        go_simp
        replace bl := hz.out.six bl (.int .i64 (k : Nat)) (.int .i64 (m : Nat)) (.bool false) (.int .i64 (a : Nat)) (.int .i64 (N : Nat)) (.int .i64 0)
        have hdR := Hh.hd_stored hz.out.hd (k : Nat) (m : Nat) false (a : Nat) (N : Nat) 0
        have hRn := hz.out.new
        refine hK.out _ _ (HC.out _ bl) (fun hS1 => ?_)
        (try simp only [Act.put, List.setIfInBounds_toArray, List.set_cons_zero, List.set_cons_succ])
        clear hK K q0 q1 q2 q3 q4 q5 y0 y1 y2 y3 y4 y5 hz
        refine wpAnyH_take (i := 19) (oi := { dst := some 6, op := Go.Op.assign (Go.Operand.tmp 70), type := 4, pos := "law.go:75", after := #[{ on := 16, ground := Go.Ground.data }, { on := 18, ground := Go.Ground.chain }, { on := 0, ground := Go.Ground.phase }, { on := 1, ground := Go.Ground.phase }, { on := 2, ground := Go.Ground.phase }, { on := 3, ground := Go.Ground.phase }, { on := 4, ground := Go.Ground.phase }, { on := 5, ground := Go.Ground.phase }, { on := 6, ground := Go.Ground.phase }, { on := 7, ground := Go.Ground.phase }, { on := 8, ground := Go.Ground.phase }, { on := 9, ground := Go.Ground.phase }, { on := 10, ground := Go.Ground.phase }, { on := 11, ground := Go.Ground.phase }, { on := 12, ground := Go.Ground.phase }, { on := 13, ground := Go.Ground.phase }, { on := 14, ground := Go.Ground.phase }, { on := 15, ground := Go.Ground.phase }, { on := 16, ground := Go.Ground.phase }, { on := 17, ground := Go.Ground.phase }, { on := 18, ground := Go.Ground.phase }], guard := none }) (v := .bool true) rfl (by kernel_rfl) (by kernel_rfl) (by kernel_rfl) (fun _ _ _ h => h) (Or.inl ⟨by rfl, fun w hSw => by (try dsimp only at hSw); go_simp⟩) hS1 ?_
        simp only [Act.put, List.setIfInBounds_toArray, List.set_cons_zero, List.set_cons_succ]
        refine wpAnyH_done (by kernel_rfl) ?_ _
        clear hS1
        generalize ((((((v4.setCell ⟨R, 0, none⟩ (.int .i64 (k : Nat))).setCell ⟨R, 1, none⟩ (.int .i64 (m : Nat))).setCell ⟨R, 2, none⟩ (.bool false)).setCell ⟨R, 3, none⟩ (.int .i64 (a : Nat))).setCell ⟨R, 4, none⟩ (.int .i64 (N : Nat))).setCell ⟨R, 5, none⟩ (.int .i64 0)) = wf at *
        obtain ⟨k0, _, k2, _, _, _⟩ := hdR.cells
        have y0 := Hh.IsHd.free hdR 0
        have y2 := Hh.IsHd.free hdR 2
        have HDR := hide hdR
        have BL := hide bl
        clear hdR bl
        go_upto_region 11 with fail
        clear k0 k2 y0 y2
        have hd11 := hide (hd_set2 (hd_set0 HDR.out 3) false)
        have bl11 : Below w8.heap.size w8 ((wf.setCell ⟨R, 0, none⟩ (.int .i64 3)).setCell ⟨R, 2, none⟩ (.bool false)) := (BL.out.setCell hRn _).setCell hRn _
        clear HDR BL
        generalize ((wf.setCell ⟨R, 0, none⟩ (.int .i64 3)).setCell ⟨R, 2, none⟩ (.bool false)) = w11 at *
        have bl := bl11.drew
        have hS0 := HS11.out _ bl
        refine wp_region_held_drew (S := fun wr => wr.cell? ⟨B, 0, none⟩ = some (.int .i64 (K.S : Nat)) ∧ wr.cell? ⟨B, 1, none⟩ = some (.int .i64 K.a) ∧ wr.cell? ⟨B, 2, none⟩ = some (.int .i64 (K.C : Nat)) ∧ wr.cell? ⟨B, 3, none⟩ = some (.int .i64 (K.D : Nat)) ∧ wr.cell? ⟨B, 4, none⟩ = some (.int .i64 K.g) ∧ wr.cell? ⟨B, 5, none⟩ = some (.int .i64 K.k) ∧ wr.cell? ⟨L, o + 9, none⟩ = some (.int .i64 (s : Nat))) (by kernel_rfl) hS0 (fun hS1 => ?_)
        clear hS0
        refine wpAnyH_take (i := 0) (oi := { dst := some 73, op := Go.Op.move (Go.Operand.tmp 0), type := 87, pos := "law.go:78", after := #[], guard := none }) (v := .pointer (some ⟨L, o, none⟩)) rfl (by kernel_rfl) (by kernel_rfl) (by kernel_rfl) (fun _ _ _ h => h) (Or.inl ⟨by rfl, fun w hSw => by (try dsimp only at hSw); go_simp⟩) hS1 ?_
        simp only [Act.put, List.setIfInBounds_toArray, List.set_cons_zero, List.set_cons_succ]
        refine wpAnyH_take (i := 1) (oi := { dst := some 74, op := Go.Op.move (Go.Operand.tmp 1), type := 27, pos := "law.go:78", after := #[], guard := none }) (v := .pointer (some ⟨B, 0, none⟩)) rfl (by kernel_rfl) (by kernel_rfl) (by kernel_rfl) (fun _ _ _ h => h) (Or.inl ⟨by rfl, fun w hSw => by (try dsimp only at hSw); go_simp⟩) hS1 ?_
        simp only [Act.put, List.setIfInBounds_toArray, List.set_cons_zero, List.set_cons_succ]
        refine wpAnyH_take (i := 2) (oi := { dst := some 75, op := Go.Op.nilCheck (Go.Operand.tmp 74), type := 0, pos := "law.go:78", after := #[{ on := 1, ground := Go.Ground.data }], guard := none }) (v := .pointer (some ⟨B, 0, none⟩)) rfl (by kernel_rfl) (by kernel_rfl) (by kernel_rfl) (fun _ _ _ h => h) (Or.inl ⟨by rfl, fun w hSw => by (try dsimp only at hSw); go_simp⟩) hS1 ?_
        simp only [Act.put, List.setIfInBounds_toArray, List.set_cons_zero, List.set_cons_succ]
        refine wpAnyH_take (i := 3) (oi := { dst := some 76, op := Go.Op.fieldAddr 31 (Go.Operand.tmp 75) 0, type := 0, pos := "law.go:78", after := #[{ on := 2, ground := Go.Ground.data }], guard := none }) (v := .pointer (some ⟨B, 0, none⟩)) rfl (by kernel_rfl) (by kernel_rfl) (by kernel_rfl) (fun _ _ _ h => h) (Or.inl ⟨by rfl, fun w hSw => by (try dsimp only at hSw); go_simp⟩) hS1 ?_
        simp only [Act.put, List.setIfInBounds_toArray, List.set_cons_zero, List.set_cons_succ]
        refine wpAnyH_take (i := 4) (oi := { dst := some 77, op := Go.Op.load 23 (Go.Operand.tmp 76), type := 23, pos := "law.go:78", after := #[{ on := 3, ground := Go.Ground.data }], guard := none }) (v := .agg #[.int .i64 (K.S : Nat), .int .i64 K.a, .int .i64 (K.C : Nat), .int .i64 (K.D : Nat), .int .i64 K.g, .int .i64 K.k]) rfl (by kernel_rfl) (by kernel_rfl) (by kernel_rfl) (fun _ _ _ h => h) (Or.inl ⟨by rfl, fun w hSw => by (try dsimp only at hSw); go_simp⟩) hS1 ?_
        simp only [Act.put, List.setIfInBounds_toArray, List.set_cons_zero, List.set_cons_succ]
        refine wpAnyH_take (i := 5) (oi := { dst := some 78, op := Go.Op.move (Go.Operand.tmp 0), type := 87, pos := "law.go:78", after := #[], guard := none }) (v := .pointer (some ⟨L, o, none⟩)) rfl (by kernel_rfl) (by kernel_rfl) (by kernel_rfl) (fun _ _ _ h => h) (Or.inl ⟨by rfl, fun w hSw => by (try dsimp only at hSw); go_simp⟩) hS1 ?_
        simp only [Act.put, List.setIfInBounds_toArray, List.set_cons_zero, List.set_cons_succ]
        refine wpAnyH_take (i := 6) (oi := { dst := some 79, op := Go.Op.nilCheck (Go.Operand.tmp 78), type := 0, pos := "law.go:78", after := #[{ on := 5, ground := Go.Ground.data }], guard := none }) (v := .pointer (some ⟨L, o, none⟩)) rfl (by kernel_rfl) (by kernel_rfl) (by kernel_rfl) (fun _ _ _ h => h) (Or.inl ⟨by rfl, fun w hSw => by (try dsimp only at hSw); go_simp⟩) hS1 ?_
        simp only [Act.put, List.setIfInBounds_toArray, List.set_cons_zero, List.set_cons_succ]
        refine wpAnyH_take (i := 7) (oi := { dst := some 80, op := Go.Op.fieldAddr 41 (Go.Operand.tmp 79) 5, type := 0, pos := "law.go:78", after := #[{ on := 6, ground := Go.Ground.data }], guard := none }) (v := .pointer (some ⟨L, o + 9, none⟩)) rfl (by kernel_rfl) (by kernel_rfl) (by kernel_rfl) (fun _ _ _ h => h) (Or.inl ⟨by rfl, fun w hSw => by (try dsimp only at hSw); go_simp⟩) hS1 ?_
        simp only [Act.put, List.setIfInBounds_toArray, List.set_cons_zero, List.set_cons_succ]
        refine wpAnyH_take (i := 8) (oi := { dst := some 81, op := Go.Op.load 3 (Go.Operand.tmp 80), type := 3, pos := "law.go:78", after := #[{ on := 7, ground := Go.Ground.data }], guard := none }) (v := .int .i64 (s : Nat)) rfl (by kernel_rfl) (by kernel_rfl) (by kernel_rfl) (fun _ _ _ h => h) (Or.inl ⟨by rfl, fun w hSw => by (try dsimp only at hSw); go_simp⟩) hS1 ?_
        simp only [Act.put, List.setIfInBounds_toArray, List.set_cons_zero, List.set_cons_succ]
        refine wpAnyH_ready (rs := [9]) (by kernel_rfl) (by simp) (AllReadyH.cons (o := { dst := some 82, op := Go.Op.call { callee := Go.Callee.value (Go.Operand.func 21), args := #[Go.Operand.tmp 77, Go.Operand.tmp 81], argTypes := #[23, 3] }, type := 39, pos := "law.go:78", after := #[{ on := 4, ground := Go.Ground.data }, { on := 8, ground := Go.Ground.data }], guard := none }) rfl (fun K hK => ?_) AllReadyH.nil)
        go_simp
        go_at_call 21
        with_reducible refine (c21.out _).mono ?_
        rintro e w12 ⟨P, c, rfl, nb, fa⟩
        (try simp only [])
        replace bl := seq_below bl nb.bel
        have hd12 := hide (Hh.IsHd.below hd11.out (seq_below (Below.refl _ _).drew nb.bel))
        have fin := hide (FIN.out _ bl11 _ _ _ nb fa)
        clear nb fa hd11 bl11
        refine hK.out _ _ (HS11.out _ bl) (fun hS1 => ?_)
        (try simp only [Act.put, List.setIfInBounds_toArray, List.set_cons_zero, List.set_cons_succ])
        clear hK K
        refine wpAnyH_take (i := 10) (oi := { dst := some 83, op := Go.Op.nilCheck (Go.Operand.tmp 73), type := 0, pos := "law.go:78", after := #[{ on := 0, ground := Go.Ground.data }, { on := 0, ground := Go.Ground.phase }, { on := 1, ground := Go.Ground.phase }, { on := 2, ground := Go.Ground.phase }, { on := 3, ground := Go.Ground.phase }, { on := 4, ground := Go.Ground.phase }, { on := 5, ground := Go.Ground.phase }, { on := 6, ground := Go.Ground.phase }, { on := 7, ground := Go.Ground.phase }, { on := 8, ground := Go.Ground.phase }, { on := 9, ground := Go.Ground.phase }], guard := none }) (v := .pointer (some ⟨L, o, none⟩)) rfl (by kernel_rfl) (by kernel_rfl) (by kernel_rfl) (fun _ _ _ h => h) (Or.inl ⟨by rfl, fun w hSw => by (try dsimp only at hSw); go_simp⟩) hS1 ?_
        simp only [Act.put, List.setIfInBounds_toArray, List.set_cons_zero, List.set_cons_succ]
        refine wpAnyH_take (i := 11) (oi := { dst := some 84, op := Go.Op.fieldAddr 41 (Go.Operand.tmp 83) 4, type := 0, pos := "law.go:78", after := #[{ on := 10, ground := Go.Ground.data }, { on := 0, ground := Go.Ground.phase }, { on := 1, ground := Go.Ground.phase }, { on := 2, ground := Go.Ground.phase }, { on := 3, ground := Go.Ground.phase }, { on := 4, ground := Go.Ground.phase }, { on := 5, ground := Go.Ground.phase }, { on := 6, ground := Go.Ground.phase }, { on := 7, ground := Go.Ground.phase }, { on := 8, ground := Go.Ground.phase }, { on := 9, ground := Go.Ground.phase }], guard := none }) (v := .pointer (some ⟨L, o + 8, none⟩)) rfl (by kernel_rfl) (by kernel_rfl) (by kernel_rfl) (fun _ _ _ h => h) (Or.inl ⟨by rfl, fun w hSw => by (try dsimp only at hSw); go_simp⟩) hS1 ?_
        simp only [Act.put, List.setIfInBounds_toArray, List.set_cons_zero, List.set_cons_succ]
        refine wpAnyH_ready (rs := [12]) (by kernel_rfl) (by simp) (AllReadyH.cons (o := { dst := none, op := Go.Op.store 39 (Go.Operand.tmp 84) (Go.Operand.tmp 82), type := 0, pos := "law.go:78", after := #[{ on := 11, ground := Go.Ground.data }, { on := 9, ground := Go.Ground.data }, { on := 9, ground := Go.Ground.chain }, { on := 0, ground := Go.Ground.phase }, { on := 1, ground := Go.Ground.phase }, { on := 2, ground := Go.Ground.phase }, { on := 3, ground := Go.Ground.phase }, { on := 4, ground := Go.Ground.phase }, { on := 5, ground := Go.Ground.phase }, { on := 6, ground := Go.Ground.phase }, { on := 7, ground := Go.Ground.phase }, { on := 8, ground := Go.Ground.phase }, { on := 9, ground := Go.Ground.phase }], guard := none }) rfl (fun K hK => ?_) AllReadyH.nil)
        obtain ⟨s1, s2⟩ := HS8.out _ bl
        go_simp
        obtain ⟨r13, d13, m13, t8, t9⟩ := HB12.out _ (.pointer (some ⟨P, 0, none⟩)) bl
        have x13 := HXL.out R hRn
        have hd13 := hide (((Chg.refl [L] w12).setCell (b := L) (o := o + 8) (.inl (by simp)) (.pointer (some ⟨P, 0, none⟩))).at hd12.out (by simpa using x13.1))
        obtain ⟨⟨l0, l1, l2, l3, l4, l5⟩, _, _⟩ := d13.cells
        refine hK.out _ _ ⟨l0, l1, l2, l3, l4, l5, t9⟩ (fun hS1 => ?_)
        (try simp only [Act.put, List.setIfInBounds_toArray, List.set_cons_zero, List.set_cons_succ])
        clear hK K s1 s2 l0 l1 l2 l3 l4 l5 hd12
        refine wpAnyH_done (by kernel_rfl) ?_ _
        clear hS1
        generalize w12.setCell ⟨L, o + 8, none⟩ (.pointer (some ⟨P, 0, none⟩)) = w13 at *
        have hR13 : R < w13.heap.size := lt_of_block hd13.out
        have KEEP : Hid (∀ wr, Chg [M, G] w13 wr → (wr.cell? ⟨B, 6, none⟩ = some (.pointer (some ⟨M, 0, none⟩)) ∧ wr.cell? ⟨L, o + 9, none⟩ = some (.int .i64 (s : Nat)) ∧ wr.cell? ⟨L, o + 8, none⟩ = some (.pointer (some ⟨P, 0, none⟩)) ∧ wr.cell? ⟨R, 0, none⟩ = some (.int .i64 3) ∧ wr.cell? ⟨R, 1, none⟩ = some (.int .i64 (m : Nat)) ∧ wr.cell? ⟨R, 2, none⟩ = some (.bool false) ∧ wr.cell? ⟨R, 3, none⟩ = some (.int .i64 (a : Nat)) ∧ wr.cell? ⟨R, 4, none⟩ = some (.int .i64 (N : Nat)) ∧ wr.cell? ⟨R, 5, none⟩ = some (.int .i64 0))) := fun wr cg => by
          have z := HNE.out
          have z2 : B ∉ [M, G] := by simp; exact ⟨z.2.2.2.1, z.2.2.2.2⟩
          have z3 : L ∉ [M, G] := by simp; exact ⟨Ne.symm z.2.1, Ne.symm z.2.2.1⟩
          have z4 : R ∉ [M, G] := by simp; exact ⟨x13.2.1, x13.2.2.1⟩
          have e : ∀ i, wr.cell? ⟨L, i, none⟩ = w13.cell? ⟨L, i, none⟩ := fun i => World.cell?_of_block (w := w13) (cg.block L (RowM.lt r13) z3)
          have q := Hh.IsHd.cells (cg.at hd13.out z4)
          exact ⟨(d13.chg cg z2).cells.2.1, by rw [e]; exact t9, by rw [e]; exact t8, q.1, q.2.1, q.2.2.1, q.2.2.2.1, q.2.2.2.2.1, q.2.2.2.2.2⟩
        have D13 := hide d13
        have M13 := hide m13
        clear r13 d13 m13 t8 t9 x13 hRn bl hR13 hd13
        go_upto_region 12 with fail
        have bl13 : Below w13.heap.size w13 w13.drew := (Below.refl _ _).drew
        have cg : Chg [M, G] w13 w13.drew := Chg.of_below bl13
        go_region_held (fun wr => (wr.cell? ⟨B, 6, none⟩ = some (.pointer (some ⟨M, 0, none⟩)) ∧ wr.cell? ⟨L, o + 9, none⟩ = some (.int .i64 (s : Nat)) ∧ wr.cell? ⟨L, o + 8, none⟩ = some (.pointer (some ⟨P, 0, none⟩)) ∧ wr.cell? ⟨R, 0, none⟩ = some (.int .i64 3) ∧ wr.cell? ⟨R, 1, none⟩ = some (.int .i64 (m : Nat)) ∧ wr.cell? ⟨R, 2, none⟩ = some (.bool false) ∧ wr.cell? ⟨R, 3, none⟩ = some (.int .i64 (a : Nat)) ∧ wr.cell? ⟨R, 4, none⟩ = some (.int .i64 (N : Nat)) ∧ wr.cell? ⟨R, 5, none⟩ = some (.int .i64 0))) (with_reducible exact KEEP.out _ cg) (first
          | (go_at_call 16; with_reducible refine (c16b.out _ _ D13.out bl13).mono ?_; rintro e w14 ⟨rfl, b⟩; replace bl13 := seq_below bl13 b; replace cg := Chg.then_below cg b; clear b)
          | (go_at_call 25; with_reducible refine (c25.out _).mono ?_; rintro e w14 ⟨rfl, b⟩; replace bl13 := seq_below bl13 b; replace cg := Chg.then_below cg b; clear b)
          | (go_at_call 24; with_reducible refine (c24.out _ _ M13.out bl13).mono ?_; rintro e w15 ⟨rfl, mm, cg2⟩; replace cg := cg2; clear cg2))
        go_wp2
        go_ret
        obtain ⟨f1, f2, f3, f4⟩ := fin.out _ cg
        rw [HCF.out] at f1
        exact ⟨rfl, P, f1, f2, f3, by rw [HVE.out, HHD.out]; exact mm, f4⟩
    · go_simp
      have hz := hide (HdN.ofNew bl)
      replace bl := seq_below bl (alloc_below _ (.cells #[.int .i64 0, .int .i64 0, .bool false, .int .i64 0, .int .i64 0, .int .i64 0] 48))
      replace hq := words_below hq (alloc_below _ (.cells #[.int .i64 0, .int .i64 0, .bool false, .int .i64 0, .int .i64 0, .int .i64 0] 48))
      refine hK.out _ _ (HC.out _ bl) (fun hS1 => ?_)
      (try simp only [Act.put, List.setIfInBounds_toArray, List.set_cons_zero, List.set_cons_succ])
      clear hK K
      generalize v1.heap.size = R at hz ⊢
      generalize v1.alloc (.cells #[.int .i64 0, .int .i64 0, .bool false, .int .i64 0, .int .i64 0, .int .i64 0] 48) = wA at *
      refine wpAnyH_ready (rs := [10]) (by kernel_rfl) (by simp) (AllReadyH.cons (o := { dst := some 65, op := Go.Op.call { callee := Go.Callee.value (Go.Operand.func 16), args := #[Go.Operand.tmp 60, Go.Operand.const (Go.Value.string { data := #[104, 101, 97, 100, 101, 114] }), Go.Operand.tmp 64, Go.Operand.const (Go.Value.int Go.IntKind.i64 0)], argTypes := #[27, 9, 3, 3] }, type := 3, pos := "law.go:75", after := #[{ on := 5, ground := Go.Ground.data }, { on := 9, ground := Go.Ground.data }, { on := 4, ground := Go.Ground.chain }], guard := none }) rfl (fun K hK => ?_) AllReadyH.nil)
      go_simp
      go_at_call 16
      with_reducible refine (c16.out _ bl).mono ?_
      rintro e v2 ⟨rfl, b⟩
      (try simp only [])
      replace hq := words_below hq b
      replace bl := seq_below bl b
      replace hz := hide (hz.out.below b)
      clear b
      refine hK.out _ _ (HC.out _ bl) (fun hS1 => ?_)
      (try simp only [Act.put, List.setIfInBounds_toArray, List.set_cons_zero, List.set_cons_succ])
      clear hK K
      refine wpAnyH_take (i := 11) (oi := { dst := some 66, op := Go.Op.indexAddr 44 (Go.Operand.tmp 59) (Go.Operand.tmp 65), type := 0, pos := "law.go:75", after := #[{ on := 4, ground := Go.Ground.data }, { on := 10, ground := Go.Ground.data }], guard := none }) (v := .pointer (some ⟨Q, hd, none⟩)) rfl (by kernel_rfl) (by kernel_rfl) (by kernel_rfl) (fun _ _ _ h => h) (Or.inl ⟨by rfl, fun w hSw => by (try dsimp only at hSw); go_simp⟩) hS1 ?_
      simp only [Act.put, List.setIfInBounds_toArray, List.set_cons_zero, List.set_cons_succ]
      refine wpAnyH_ready (rs := [12]) (by kernel_rfl) (by simp) (AllReadyH.cons (o := { dst := some 67, op := Go.Op.load 35 (Go.Operand.tmp 66), type := 35, pos := "law.go:75", after := #[{ on := 11, ground := Go.Ground.data }], guard := none }) rfl (fun K hK => ?_) AllReadyH.nil)
      have hqc := word_cell hq HDL.out HWD.out
      go_simp
      refine hK.out _ _ (HC.out _ bl) (fun hS1 => ?_)
      (try simp only [Act.put, List.setIfInBounds_toArray, List.set_cons_zero, List.set_cons_succ])
      clear hK K hqc hq
      refine wpAnyH_ready (rs := [13]) (by kernel_rfl) (by simp) (AllReadyH.cons (o := { dst := some 68, op := Go.Op.call { callee := Go.Callee.value (Go.Operand.func 15), args := #[Go.Operand.tmp 67], argTypes := #[35] }, type := 49, pos := "law.go:75", after := #[{ on := 12, ground := Go.Ground.data }, { on := 10, ground := Go.Ground.chain }], guard := none }) rfl (fun K hK => ?_) AllReadyH.nil)
      go_simp
      go_at_call 15
      with_reducible refine (c15.out _).mono ?_
      rintro e v4 ⟨rfl, b⟩
      (try simp only [])
      replace bl := seq_below bl b
      replace hz := hide (hz.out.below b)
      clear b
      refine hK.out _ _ (HC.out _ bl) (fun hS1 => ?_)
      (try simp only [Act.put, List.setIfInBounds_toArray, List.set_cons_zero, List.set_cons_succ])
      clear hK K
      refine wpAnyH_take (i := 14) (oi := { dst := some 54, op := Go.Op.move (Go.Operand.tmp 68), type := 49, pos := "law.go:75", after := #[{ on := 13, ground := Go.Ground.data }], guard := none }) (v := .tuple #[.agg #[.int .i64 (k : Nat), .int .i64 (m : Nat), .bool false, .int .i64 (a : Nat), .int .i64 (N : Nat), .int .i64 0], .bool true]) rfl (by kernel_rfl) (by kernel_rfl) (by kernel_rfl) (fun _ _ _ h => h) (Or.inl ⟨by rfl, fun w hSw => by (try dsimp only at hSw); go_simp⟩) hS1 ?_
      simp only [Act.put, List.setIfInBounds_toArray, List.set_cons_zero, List.set_cons_succ]
      refine wpAnyH_take (i := 15) (oi := { dst := some 69, op := Go.Op.extract (Go.Operand.tmp 54) 0, type := 48, pos := "law.go:75", after := #[{ on := 14, ground := Go.Ground.data }], guard := none }) (v := .agg #[.int .i64 (k : Nat), .int .i64 (m : Nat), .bool false, .int .i64 (a : Nat), .int .i64 (N : Nat), .int .i64 0]) rfl (by kernel_rfl) (by kernel_rfl) (by kernel_rfl) (fun _ _ _ h => h) (Or.inl ⟨by rfl, fun w hSw => by (try dsimp only at hSw); go_simp⟩) hS1 ?_
      simp only [Act.put, List.setIfInBounds_toArray, List.set_cons_zero, List.set_cons_succ]
      refine wpAnyH_take (i := 16) (oi := { dst := some 70, op := Go.Op.extract (Go.Operand.tmp 54) 1, type := 4, pos := "law.go:75", after := #[{ on := 14, ground := Go.Ground.data }, { on := 18, ground := Go.Ground.gcOnly Go.Departure.lateStores }], guard := none }) (v := .bool true) rfl (by kernel_rfl) (by kernel_rfl) (by kernel_rfl) (fun _ _ _ h => h) (Or.inl ⟨by rfl, fun w hSw => by (try dsimp only at hSw); go_simp⟩) hS1 ?_
      simp only [Act.put, List.setIfInBounds_toArray, List.set_cons_zero, List.set_cons_succ]
      refine wpAnyH_ready (rs := [18]) (by kernel_rfl) (by simp) (AllReadyH.cons (o := { dst := none, op := Go.Op.store 48 (Go.Operand.tmp 5) (Go.Operand.tmp 69), type := 0, pos := "law.go:75", after := #[{ on := 17, ground := Go.Ground.data }, { on := 15, ground := Go.Ground.data }, { on := 13, ground := Go.Ground.chain }, { on := 0, ground := Go.Ground.phase }, { on := 1, ground := Go.Ground.phase }, { on := 2, ground := Go.Ground.phase }, { on := 3, ground := Go.Ground.phase }, { on := 4, ground := Go.Ground.phase }, { on := 5, ground := Go.Ground.phase }, { on := 6, ground := Go.Ground.phase }, { on := 7, ground := Go.Ground.phase }, { on := 8, ground := Go.Ground.phase }, { on := 9, ground := Go.Ground.phase }, { on := 10, ground := Go.Ground.phase }, { on := 11, ground := Go.Ground.phase }, { on := 12, ground := Go.Ground.phase }, { on := 13, ground := Go.Ground.phase }, { on := 14, ground := Go.Ground.phase }, { on := 15, ground := Go.Ground.phase }, { on := 16, ground := Go.Ground.textOnly Go.Departure.lateStores }, { on := 17, ground := Go.Ground.phase }], guard := none }) rfl (fun K hK => ?_) AllReadyH.nil)
      obtain ⟨⟨q0, q1, q2, q3, q4, q5⟩, y⟩ := hz.out.cells
      have y0 := y 0
      have y1 := y 1
      have y2 := y 2
      have y3 := y 3
      have y4 := y 4
      have y5 := y 5
      clear y
      go_simp
      replace bl := hz.out.six bl (.int .i64 (k : Nat)) (.int .i64 (m : Nat)) (.bool false) (.int .i64 (a : Nat)) (.int .i64 (N : Nat)) (.int .i64 0)
      have hdR := Hh.hd_stored hz.out.hd (k : Nat) (m : Nat) false (a : Nat) (N : Nat) 0
      have hRn := hz.out.new
      refine hK.out _ _ (HC.out _ bl) (fun hS1 => ?_)
      (try simp only [Act.put, List.setIfInBounds_toArray, List.set_cons_zero, List.set_cons_succ])
      clear hK K q0 q1 q2 q3 q4 q5 y0 y1 y2 y3 y4 y5 hz
      refine wpAnyH_take (i := 19) (oi := { dst := some 6, op := Go.Op.assign (Go.Operand.tmp 70), type := 4, pos := "law.go:75", after := #[{ on := 16, ground := Go.Ground.data }, { on := 18, ground := Go.Ground.chain }, { on := 0, ground := Go.Ground.phase }, { on := 1, ground := Go.Ground.phase }, { on := 2, ground := Go.Ground.phase }, { on := 3, ground := Go.Ground.phase }, { on := 4, ground := Go.Ground.phase }, { on := 5, ground := Go.Ground.phase }, { on := 6, ground := Go.Ground.phase }, { on := 7, ground := Go.Ground.phase }, { on := 8, ground := Go.Ground.phase }, { on := 9, ground := Go.Ground.phase }, { on := 10, ground := Go.Ground.phase }, { on := 11, ground := Go.Ground.phase }, { on := 12, ground := Go.Ground.phase }, { on := 13, ground := Go.Ground.phase }, { on := 14, ground := Go.Ground.phase }, { on := 15, ground := Go.Ground.phase }, { on := 16, ground := Go.Ground.phase }, { on := 17, ground := Go.Ground.phase }, { on := 18, ground := Go.Ground.phase }], guard := none }) (v := .bool true) rfl (by kernel_rfl) (by kernel_rfl) (by kernel_rfl) (fun _ _ _ h => h) (Or.inl ⟨by rfl, fun w hSw => by (try dsimp only at hSw); go_simp⟩) hS1 ?_
      simp only [Act.put, List.setIfInBounds_toArray, List.set_cons_zero, List.set_cons_succ]
      refine wpAnyH_done (by kernel_rfl) ?_ _
      clear hS1
      generalize ((((((v4.setCell ⟨R, 0, none⟩ (.int .i64 (k : Nat))).setCell ⟨R, 1, none⟩ (.int .i64 (m : Nat))).setCell ⟨R, 2, none⟩ (.bool false)).setCell ⟨R, 3, none⟩ (.int .i64 (a : Nat))).setCell ⟨R, 4, none⟩ (.int .i64 (N : Nat))).setCell ⟨R, 5, none⟩ (.int .i64 0)) = wf at *
      obtain ⟨k0, _, k2, _, _, _⟩ := hdR.cells
      have y0 := Hh.IsHd.free hdR 0
      have y2 := Hh.IsHd.free hdR 2
      have HDR := hide hdR
      have BL := hide bl
      clear hdR bl
      go_upto_region 11 with fail
      clear k0 k2 y0 y2
      have hd11 := hide (hd_set2 (hd_set0 HDR.out 3) false)
      have bl11 : Below w8.heap.size w8 ((wf.setCell ⟨R, 0, none⟩ (.int .i64 3)).setCell ⟨R, 2, none⟩ (.bool false)) := (BL.out.setCell hRn _).setCell hRn _
      clear HDR BL
      generalize ((wf.setCell ⟨R, 0, none⟩ (.int .i64 3)).setCell ⟨R, 2, none⟩ (.bool false)) = w11 at *
      have bl := bl11.drew
      have hS0 := HS11.out _ bl
      refine wp_region_held_drew (S := fun wr => wr.cell? ⟨B, 0, none⟩ = some (.int .i64 (K.S : Nat)) ∧ wr.cell? ⟨B, 1, none⟩ = some (.int .i64 K.a) ∧ wr.cell? ⟨B, 2, none⟩ = some (.int .i64 (K.C : Nat)) ∧ wr.cell? ⟨B, 3, none⟩ = some (.int .i64 (K.D : Nat)) ∧ wr.cell? ⟨B, 4, none⟩ = some (.int .i64 K.g) ∧ wr.cell? ⟨B, 5, none⟩ = some (.int .i64 K.k) ∧ wr.cell? ⟨L, o + 9, none⟩ = some (.int .i64 (s : Nat))) (by kernel_rfl) hS0 (fun hS1 => ?_)
      clear hS0
      refine wpAnyH_take (i := 0) (oi := { dst := some 73, op := Go.Op.move (Go.Operand.tmp 0), type := 87, pos := "law.go:78", after := #[], guard := none }) (v := .pointer (some ⟨L, o, none⟩)) rfl (by kernel_rfl) (by kernel_rfl) (by kernel_rfl) (fun _ _ _ h => h) (Or.inl ⟨by rfl, fun w hSw => by (try dsimp only at hSw); go_simp⟩) hS1 ?_
      simp only [Act.put, List.setIfInBounds_toArray, List.set_cons_zero, List.set_cons_succ]
      refine wpAnyH_take (i := 1) (oi := { dst := some 74, op := Go.Op.move (Go.Operand.tmp 1), type := 27, pos := "law.go:78", after := #[], guard := none }) (v := .pointer (some ⟨B, 0, none⟩)) rfl (by kernel_rfl) (by kernel_rfl) (by kernel_rfl) (fun _ _ _ h => h) (Or.inl ⟨by rfl, fun w hSw => by (try dsimp only at hSw); go_simp⟩) hS1 ?_
      simp only [Act.put, List.setIfInBounds_toArray, List.set_cons_zero, List.set_cons_succ]
      refine wpAnyH_take (i := 2) (oi := { dst := some 75, op := Go.Op.nilCheck (Go.Operand.tmp 74), type := 0, pos := "law.go:78", after := #[{ on := 1, ground := Go.Ground.data }], guard := none }) (v := .pointer (some ⟨B, 0, none⟩)) rfl (by kernel_rfl) (by kernel_rfl) (by kernel_rfl) (fun _ _ _ h => h) (Or.inl ⟨by rfl, fun w hSw => by (try dsimp only at hSw); go_simp⟩) hS1 ?_
      simp only [Act.put, List.setIfInBounds_toArray, List.set_cons_zero, List.set_cons_succ]
      refine wpAnyH_take (i := 3) (oi := { dst := some 76, op := Go.Op.fieldAddr 31 (Go.Operand.tmp 75) 0, type := 0, pos := "law.go:78", after := #[{ on := 2, ground := Go.Ground.data }], guard := none }) (v := .pointer (some ⟨B, 0, none⟩)) rfl (by kernel_rfl) (by kernel_rfl) (by kernel_rfl) (fun _ _ _ h => h) (Or.inl ⟨by rfl, fun w hSw => by (try dsimp only at hSw); go_simp⟩) hS1 ?_
      simp only [Act.put, List.setIfInBounds_toArray, List.set_cons_zero, List.set_cons_succ]
      refine wpAnyH_take (i := 4) (oi := { dst := some 77, op := Go.Op.load 23 (Go.Operand.tmp 76), type := 23, pos := "law.go:78", after := #[{ on := 3, ground := Go.Ground.data }], guard := none }) (v := .agg #[.int .i64 (K.S : Nat), .int .i64 K.a, .int .i64 (K.C : Nat), .int .i64 (K.D : Nat), .int .i64 K.g, .int .i64 K.k]) rfl (by kernel_rfl) (by kernel_rfl) (by kernel_rfl) (fun _ _ _ h => h) (Or.inl ⟨by rfl, fun w hSw => by (try dsimp only at hSw); go_simp⟩) hS1 ?_
      simp only [Act.put, List.setIfInBounds_toArray, List.set_cons_zero, List.set_cons_succ]
      refine wpAnyH_take (i := 5) (oi := { dst := some 78, op := Go.Op.move (Go.Operand.tmp 0), type := 87, pos := "law.go:78", after := #[], guard := none }) (v := .pointer (some ⟨L, o, none⟩)) rfl (by kernel_rfl) (by kernel_rfl) (by kernel_rfl) (fun _ _ _ h => h) (Or.inl ⟨by rfl, fun w hSw => by (try dsimp only at hSw); go_simp⟩) hS1 ?_
      simp only [Act.put, List.setIfInBounds_toArray, List.set_cons_zero, List.set_cons_succ]
      refine wpAnyH_take (i := 6) (oi := { dst := some 79, op := Go.Op.nilCheck (Go.Operand.tmp 78), type := 0, pos := "law.go:78", after := #[{ on := 5, ground := Go.Ground.data }], guard := none }) (v := .pointer (some ⟨L, o, none⟩)) rfl (by kernel_rfl) (by kernel_rfl) (by kernel_rfl) (fun _ _ _ h => h) (Or.inl ⟨by rfl, fun w hSw => by (try dsimp only at hSw); go_simp⟩) hS1 ?_
      simp only [Act.put, List.setIfInBounds_toArray, List.set_cons_zero, List.set_cons_succ]
      refine wpAnyH_take (i := 7) (oi := { dst := some 80, op := Go.Op.fieldAddr 41 (Go.Operand.tmp 79) 5, type := 0, pos := "law.go:78", after := #[{ on := 6, ground := Go.Ground.data }], guard := none }) (v := .pointer (some ⟨L, o + 9, none⟩)) rfl (by kernel_rfl) (by kernel_rfl) (by kernel_rfl) (fun _ _ _ h => h) (Or.inl ⟨by rfl, fun w hSw => by (try dsimp only at hSw); go_simp⟩) hS1 ?_
      simp only [Act.put, List.setIfInBounds_toArray, List.set_cons_zero, List.set_cons_succ]
      refine wpAnyH_take (i := 8) (oi := { dst := some 81, op := Go.Op.load 3 (Go.Operand.tmp 80), type := 3, pos := "law.go:78", after := #[{ on := 7, ground := Go.Ground.data }], guard := none }) (v := .int .i64 (s : Nat)) rfl (by kernel_rfl) (by kernel_rfl) (by kernel_rfl) (fun _ _ _ h => h) (Or.inl ⟨by rfl, fun w hSw => by (try dsimp only at hSw); go_simp⟩) hS1 ?_
      simp only [Act.put, List.setIfInBounds_toArray, List.set_cons_zero, List.set_cons_succ]
      refine wpAnyH_ready (rs := [9]) (by kernel_rfl) (by simp) (AllReadyH.cons (o := { dst := some 82, op := Go.Op.call { callee := Go.Callee.value (Go.Operand.func 21), args := #[Go.Operand.tmp 77, Go.Operand.tmp 81], argTypes := #[23, 3] }, type := 39, pos := "law.go:78", after := #[{ on := 4, ground := Go.Ground.data }, { on := 8, ground := Go.Ground.data }], guard := none }) rfl (fun K hK => ?_) AllReadyH.nil)
      go_simp
      go_at_call 21
      with_reducible refine (c21.out _).mono ?_
      rintro e w12 ⟨P, c, rfl, nb, fa⟩
      (try simp only [])
      replace bl := seq_below bl nb.bel
      have hd12 := hide (Hh.IsHd.below hd11.out (seq_below (Below.refl _ _).drew nb.bel))
      have fin := hide (FIN.out _ bl11 _ _ _ nb fa)
      clear nb fa hd11 bl11
      refine hK.out _ _ (HS11.out _ bl) (fun hS1 => ?_)
      (try simp only [Act.put, List.setIfInBounds_toArray, List.set_cons_zero, List.set_cons_succ])
      clear hK K
      refine wpAnyH_take (i := 10) (oi := { dst := some 83, op := Go.Op.nilCheck (Go.Operand.tmp 73), type := 0, pos := "law.go:78", after := #[{ on := 0, ground := Go.Ground.data }, { on := 0, ground := Go.Ground.phase }, { on := 1, ground := Go.Ground.phase }, { on := 2, ground := Go.Ground.phase }, { on := 3, ground := Go.Ground.phase }, { on := 4, ground := Go.Ground.phase }, { on := 5, ground := Go.Ground.phase }, { on := 6, ground := Go.Ground.phase }, { on := 7, ground := Go.Ground.phase }, { on := 8, ground := Go.Ground.phase }, { on := 9, ground := Go.Ground.phase }], guard := none }) (v := .pointer (some ⟨L, o, none⟩)) rfl (by kernel_rfl) (by kernel_rfl) (by kernel_rfl) (fun _ _ _ h => h) (Or.inl ⟨by rfl, fun w hSw => by (try dsimp only at hSw); go_simp⟩) hS1 ?_
      simp only [Act.put, List.setIfInBounds_toArray, List.set_cons_zero, List.set_cons_succ]
      refine wpAnyH_take (i := 11) (oi := { dst := some 84, op := Go.Op.fieldAddr 41 (Go.Operand.tmp 83) 4, type := 0, pos := "law.go:78", after := #[{ on := 10, ground := Go.Ground.data }, { on := 0, ground := Go.Ground.phase }, { on := 1, ground := Go.Ground.phase }, { on := 2, ground := Go.Ground.phase }, { on := 3, ground := Go.Ground.phase }, { on := 4, ground := Go.Ground.phase }, { on := 5, ground := Go.Ground.phase }, { on := 6, ground := Go.Ground.phase }, { on := 7, ground := Go.Ground.phase }, { on := 8, ground := Go.Ground.phase }, { on := 9, ground := Go.Ground.phase }], guard := none }) (v := .pointer (some ⟨L, o + 8, none⟩)) rfl (by kernel_rfl) (by kernel_rfl) (by kernel_rfl) (fun _ _ _ h => h) (Or.inl ⟨by rfl, fun w hSw => by (try dsimp only at hSw); go_simp⟩) hS1 ?_
      simp only [Act.put, List.setIfInBounds_toArray, List.set_cons_zero, List.set_cons_succ]
      refine wpAnyH_ready (rs := [12]) (by kernel_rfl) (by simp) (AllReadyH.cons (o := { dst := none, op := Go.Op.store 39 (Go.Operand.tmp 84) (Go.Operand.tmp 82), type := 0, pos := "law.go:78", after := #[{ on := 11, ground := Go.Ground.data }, { on := 9, ground := Go.Ground.data }, { on := 9, ground := Go.Ground.chain }, { on := 0, ground := Go.Ground.phase }, { on := 1, ground := Go.Ground.phase }, { on := 2, ground := Go.Ground.phase }, { on := 3, ground := Go.Ground.phase }, { on := 4, ground := Go.Ground.phase }, { on := 5, ground := Go.Ground.phase }, { on := 6, ground := Go.Ground.phase }, { on := 7, ground := Go.Ground.phase }, { on := 8, ground := Go.Ground.phase }, { on := 9, ground := Go.Ground.phase }], guard := none }) rfl (fun K hK => ?_) AllReadyH.nil)
      obtain ⟨s1, s2⟩ := HS8.out _ bl
      go_simp
      obtain ⟨r13, d13, m13, t8, t9⟩ := HB12.out _ (.pointer (some ⟨P, 0, none⟩)) bl
      have x13 := HXL.out R hRn
      have hd13 := hide (((Chg.refl [L] w12).setCell (b := L) (o := o + 8) (.inl (by simp)) (.pointer (some ⟨P, 0, none⟩))).at hd12.out (by simpa using x13.1))
      obtain ⟨⟨l0, l1, l2, l3, l4, l5⟩, _, _⟩ := d13.cells
      refine hK.out _ _ ⟨l0, l1, l2, l3, l4, l5, t9⟩ (fun hS1 => ?_)
      (try simp only [Act.put, List.setIfInBounds_toArray, List.set_cons_zero, List.set_cons_succ])
      clear hK K s1 s2 l0 l1 l2 l3 l4 l5 hd12
      refine wpAnyH_done (by kernel_rfl) ?_ _
      clear hS1
      generalize w12.setCell ⟨L, o + 8, none⟩ (.pointer (some ⟨P, 0, none⟩)) = w13 at *
      have hR13 : R < w13.heap.size := lt_of_block hd13.out
      have KEEP : Hid (∀ wr, Chg [M, G] w13 wr → (wr.cell? ⟨B, 6, none⟩ = some (.pointer (some ⟨M, 0, none⟩)) ∧ wr.cell? ⟨L, o + 9, none⟩ = some (.int .i64 (s : Nat)) ∧ wr.cell? ⟨L, o + 8, none⟩ = some (.pointer (some ⟨P, 0, none⟩)) ∧ wr.cell? ⟨R, 0, none⟩ = some (.int .i64 3) ∧ wr.cell? ⟨R, 1, none⟩ = some (.int .i64 (m : Nat)) ∧ wr.cell? ⟨R, 2, none⟩ = some (.bool false) ∧ wr.cell? ⟨R, 3, none⟩ = some (.int .i64 (a : Nat)) ∧ wr.cell? ⟨R, 4, none⟩ = some (.int .i64 (N : Nat)) ∧ wr.cell? ⟨R, 5, none⟩ = some (.int .i64 0))) := fun wr cg => by
        have z := HNE.out
        have z2 : B ∉ [M, G] := by simp; exact ⟨z.2.2.2.1, z.2.2.2.2⟩
        have z3 : L ∉ [M, G] := by simp; exact ⟨Ne.symm z.2.1, Ne.symm z.2.2.1⟩
        have z4 : R ∉ [M, G] := by simp; exact ⟨x13.2.1, x13.2.2.1⟩
        have e : ∀ i, wr.cell? ⟨L, i, none⟩ = w13.cell? ⟨L, i, none⟩ := fun i => World.cell?_of_block (w := w13) (cg.block L (RowM.lt r13) z3)
        have q := Hh.IsHd.cells (cg.at hd13.out z4)
        exact ⟨(d13.chg cg z2).cells.2.1, by rw [e]; exact t9, by rw [e]; exact t8, q.1, q.2.1, q.2.2.1, q.2.2.2.1, q.2.2.2.2.1, q.2.2.2.2.2⟩
      have D13 := hide d13
      have M13 := hide m13
      clear r13 d13 m13 t8 t9 x13 hRn bl hR13 hd13
      go_upto_region 12 with fail
      have bl13 : Below w13.heap.size w13 w13.drew := (Below.refl _ _).drew
      have cg : Chg [M, G] w13 w13.drew := Chg.of_below bl13
      go_region_held (fun wr => (wr.cell? ⟨B, 6, none⟩ = some (.pointer (some ⟨M, 0, none⟩)) ∧ wr.cell? ⟨L, o + 9, none⟩ = some (.int .i64 (s : Nat)) ∧ wr.cell? ⟨L, o + 8, none⟩ = some (.pointer (some ⟨P, 0, none⟩)) ∧ wr.cell? ⟨R, 0, none⟩ = some (.int .i64 3) ∧ wr.cell? ⟨R, 1, none⟩ = some (.int .i64 (m : Nat)) ∧ wr.cell? ⟨R, 2, none⟩ = some (.bool false) ∧ wr.cell? ⟨R, 3, none⟩ = some (.int .i64 (a : Nat)) ∧ wr.cell? ⟨R, 4, none⟩ = some (.int .i64 (N : Nat)) ∧ wr.cell? ⟨R, 5, none⟩ = some (.int .i64 0))) (with_reducible exact KEEP.out _ cg) (first
        | (go_at_call 16; with_reducible refine (c16b.out _ _ D13.out bl13).mono ?_; rintro e w14 ⟨rfl, b⟩; replace bl13 := seq_below bl13 b; replace cg := Chg.then_below cg b; clear b)
        | (go_at_call 25; with_reducible refine (c25.out _).mono ?_; rintro e w14 ⟨rfl, b⟩; replace bl13 := seq_below bl13 b; replace cg := Chg.then_below cg b; clear b)
        | (go_at_call 24; with_reducible refine (c24.out _ _ M13.out bl13).mono ?_; rintro e w15 ⟨rfl, mm, cg2⟩; replace cg := cg2; clear cg2))
      go_wp2
      go_ret
      obtain ⟨f1, f2, f3, f4⟩ := fin.out _ cg
      rw [HCF.out] at f1
      exact ⟨rfl, P, f1, f2, f3, by rw [HVE.out, HHD.out]; exact mm, f4⟩
  · go_simp
    have hz := hide (HdN.ofNewD w8)
    replace bl := ((Below.refl w8.heap.size w8).alloc (Nat.le_refl _) (.cells #[.int .i64 0, .int .i64 0, .bool false, .int .i64 0, .int .i64 0, .int .i64 0] 48)).drew
    refine hK.out _ _ (HC.out _ bl) (fun hS1 => ?_)
    (try simp only [Act.put, List.setIfInBounds_toArray, List.set_cons_zero, List.set_cons_succ])
    clear hK K
    generalize w8.heap.size = R at hz ⊢
    generalize (w8.alloc (.cells #[.int .i64 0, .int .i64 0, .bool false, .int .i64 0, .int .i64 0, .int .i64 0] 48)).drew = wA at *
    refine wpAnyH_ready (rs := [4]) (by kernel_rfl) (by simp) (AllReadyH.cons (o := { dst := some 59, op := Go.Op.call { callee := Go.Callee.value (Go.Operand.func 13), args := #[Go.Operand.tmp 58], argTypes := #[28] }, type := 44, pos := "law.go:75", after := #[{ on := 3, ground := Go.Ground.data }], guard := none }) rfl (fun K hK => ?_) AllReadyH.nil)
    go_simp
    go_at_call 13
    with_reducible refine (c13.out _ bl).mono ?_
    rintro e v1 ⟨Q, rfl, hq, b⟩
    (try simp only [])
    replace bl := seq_below bl b
    replace hz := hide (hz.out.below b)
    clear b
    refine hK.out _ _ (HC.out _ bl) (fun hS1 => ?_)
    (try simp only [Act.put, List.setIfInBounds_toArray, List.set_cons_zero, List.set_cons_succ])
    clear hK K
    refine wpAnyH_ready (rs := [10]) (by kernel_rfl) (by simp) (AllReadyH.cons (o := { dst := some 65, op := Go.Op.call { callee := Go.Callee.value (Go.Operand.func 16), args := #[Go.Operand.tmp 60, Go.Operand.const (Go.Value.string { data := #[104, 101, 97, 100, 101, 114] }), Go.Operand.tmp 64, Go.Operand.const (Go.Value.int Go.IntKind.i64 0)], argTypes := #[27, 9, 3, 3] }, type := 3, pos := "law.go:75", after := #[{ on := 5, ground := Go.Ground.data }, { on := 9, ground := Go.Ground.data }, { on := 4, ground := Go.Ground.chain }], guard := none }) rfl (fun K hK => ?_) AllReadyH.nil)
    go_simp
    go_at_call 16
    with_reducible refine (c16.out _ bl).mono ?_
    rintro e v2 ⟨rfl, b⟩
    (try simp only [])
    replace hq := words_below hq b
    replace bl := seq_below bl b
    replace hz := hide (hz.out.below b)
    clear b
    refine hK.out _ _ (HC.out _ bl) (fun hS1 => ?_)
    (try simp only [Act.put, List.setIfInBounds_toArray, List.set_cons_zero, List.set_cons_succ])
    clear hK K
    refine wpAnyH_take (i := 11) (oi := { dst := some 66, op := Go.Op.indexAddr 44 (Go.Operand.tmp 59) (Go.Operand.tmp 65), type := 0, pos := "law.go:75", after := #[{ on := 4, ground := Go.Ground.data }, { on := 10, ground := Go.Ground.data }], guard := none }) (v := .pointer (some ⟨Q, hd, none⟩)) rfl (by kernel_rfl) (by kernel_rfl) (by kernel_rfl) (fun _ _ _ h => h) (Or.inl ⟨by rfl, fun w hSw => by (try dsimp only at hSw); go_simp⟩) hS1 ?_
    simp only [Act.put, List.setIfInBounds_toArray, List.set_cons_zero, List.set_cons_succ]
    refine wpAnyH_ready (rs := [12]) (by kernel_rfl) (by simp) (AllReadyH.cons (o := { dst := some 67, op := Go.Op.load 35 (Go.Operand.tmp 66), type := 35, pos := "law.go:75", after := #[{ on := 11, ground := Go.Ground.data }], guard := none }) rfl (fun K hK => ?_) AllReadyH.nil)
    have hqc := word_cell hq HDL.out HWD.out
    go_simp
    refine hK.out _ _ (HC.out _ bl) (fun hS1 => ?_)
    (try simp only [Act.put, List.setIfInBounds_toArray, List.set_cons_zero, List.set_cons_succ])
    clear hK K hqc hq
    refine wpAnyH_ready (rs := [13]) (by kernel_rfl) (by simp) (AllReadyH.cons (o := { dst := some 68, op := Go.Op.call { callee := Go.Callee.value (Go.Operand.func 15), args := #[Go.Operand.tmp 67], argTypes := #[35] }, type := 49, pos := "law.go:75", after := #[{ on := 12, ground := Go.Ground.data }, { on := 10, ground := Go.Ground.chain }], guard := none }) rfl (fun K hK => ?_) AllReadyH.nil)
    go_simp
    go_at_call 15
    with_reducible refine (c15.out _).mono ?_
    rintro e v4 ⟨rfl, b⟩
    (try simp only [])
    replace bl := seq_below bl b
    replace hz := hide (hz.out.below b)
    clear b
    refine hK.out _ _ (HC.out _ bl) (fun hS1 => ?_)
    (try simp only [Act.put, List.setIfInBounds_toArray, List.set_cons_zero, List.set_cons_succ])
    clear hK K
    refine wpAnyH_take (i := 14) (oi := { dst := some 54, op := Go.Op.move (Go.Operand.tmp 68), type := 49, pos := "law.go:75", after := #[{ on := 13, ground := Go.Ground.data }], guard := none }) (v := .tuple #[.agg #[.int .i64 (k : Nat), .int .i64 (m : Nat), .bool false, .int .i64 (a : Nat), .int .i64 (N : Nat), .int .i64 0], .bool true]) rfl (by kernel_rfl) (by kernel_rfl) (by kernel_rfl) (fun _ _ _ h => h) (Or.inl ⟨by rfl, fun w hSw => by (try dsimp only at hSw); go_simp⟩) hS1 ?_
    simp only [Act.put, List.setIfInBounds_toArray, List.set_cons_zero, List.set_cons_succ]
    refine wpAnyH_take (i := 15) (oi := { dst := some 69, op := Go.Op.extract (Go.Operand.tmp 54) 0, type := 48, pos := "law.go:75", after := #[{ on := 14, ground := Go.Ground.data }], guard := none }) (v := .agg #[.int .i64 (k : Nat), .int .i64 (m : Nat), .bool false, .int .i64 (a : Nat), .int .i64 (N : Nat), .int .i64 0]) rfl (by kernel_rfl) (by kernel_rfl) (by kernel_rfl) (fun _ _ _ h => h) (Or.inl ⟨by rfl, fun w hSw => by (try dsimp only at hSw); go_simp⟩) hS1 ?_
    simp only [Act.put, List.setIfInBounds_toArray, List.set_cons_zero, List.set_cons_succ]
    refine wpAnyH_take (i := 16) (oi := { dst := some 70, op := Go.Op.extract (Go.Operand.tmp 54) 1, type := 4, pos := "law.go:75", after := #[{ on := 14, ground := Go.Ground.data }, { on := 18, ground := Go.Ground.gcOnly Go.Departure.lateStores }], guard := none }) (v := .bool true) rfl (by kernel_rfl) (by kernel_rfl) (by kernel_rfl) (fun _ _ _ h => h) (Or.inl ⟨by rfl, fun w hSw => by (try dsimp only at hSw); go_simp⟩) hS1 ?_
    simp only [Act.put, List.setIfInBounds_toArray, List.set_cons_zero, List.set_cons_succ]
    refine wpAnyH_ready (rs := [18]) (by kernel_rfl) (by simp) (AllReadyH.cons (o := { dst := none, op := Go.Op.store 48 (Go.Operand.tmp 5) (Go.Operand.tmp 69), type := 0, pos := "law.go:75", after := #[{ on := 17, ground := Go.Ground.data }, { on := 15, ground := Go.Ground.data }, { on := 13, ground := Go.Ground.chain }, { on := 0, ground := Go.Ground.phase }, { on := 1, ground := Go.Ground.phase }, { on := 2, ground := Go.Ground.phase }, { on := 3, ground := Go.Ground.phase }, { on := 4, ground := Go.Ground.phase }, { on := 5, ground := Go.Ground.phase }, { on := 6, ground := Go.Ground.phase }, { on := 7, ground := Go.Ground.phase }, { on := 8, ground := Go.Ground.phase }, { on := 9, ground := Go.Ground.phase }, { on := 10, ground := Go.Ground.phase }, { on := 11, ground := Go.Ground.phase }, { on := 12, ground := Go.Ground.phase }, { on := 13, ground := Go.Ground.phase }, { on := 14, ground := Go.Ground.phase }, { on := 15, ground := Go.Ground.phase }, { on := 16, ground := Go.Ground.textOnly Go.Departure.lateStores }, { on := 17, ground := Go.Ground.phase }], guard := none }) rfl (fun K hK => ?_) AllReadyH.nil)
    obtain ⟨⟨q0, q1, q2, q3, q4, q5⟩, y⟩ := hz.out.cells
    have y0 := y 0
    have y1 := y 1
    have y2 := y 2
    have y3 := y 3
    have y4 := y 4
    have y5 := y 5
    clear y
    go_simp
    replace bl := hz.out.six bl (.int .i64 (k : Nat)) (.int .i64 (m : Nat)) (.bool false) (.int .i64 (a : Nat)) (.int .i64 (N : Nat)) (.int .i64 0)
    have hdR := Hh.hd_stored hz.out.hd (k : Nat) (m : Nat) false (a : Nat) (N : Nat) 0
    have hRn := hz.out.new
    refine hK.out _ _ (HC.out _ bl) (fun hS1 => ?_)
    (try simp only [Act.put, List.setIfInBounds_toArray, List.set_cons_zero, List.set_cons_succ])
    clear hK K q0 q1 q2 q3 q4 q5 y0 y1 y2 y3 y4 y5 hz
    refine wpAnyH_take (i := 19) (oi := { dst := some 6, op := Go.Op.assign (Go.Operand.tmp 70), type := 4, pos := "law.go:75", after := #[{ on := 16, ground := Go.Ground.data }, { on := 18, ground := Go.Ground.chain }, { on := 0, ground := Go.Ground.phase }, { on := 1, ground := Go.Ground.phase }, { on := 2, ground := Go.Ground.phase }, { on := 3, ground := Go.Ground.phase }, { on := 4, ground := Go.Ground.phase }, { on := 5, ground := Go.Ground.phase }, { on := 6, ground := Go.Ground.phase }, { on := 7, ground := Go.Ground.phase }, { on := 8, ground := Go.Ground.phase }, { on := 9, ground := Go.Ground.phase }, { on := 10, ground := Go.Ground.phase }, { on := 11, ground := Go.Ground.phase }, { on := 12, ground := Go.Ground.phase }, { on := 13, ground := Go.Ground.phase }, { on := 14, ground := Go.Ground.phase }, { on := 15, ground := Go.Ground.phase }, { on := 16, ground := Go.Ground.phase }, { on := 17, ground := Go.Ground.phase }, { on := 18, ground := Go.Ground.phase }], guard := none }) (v := .bool true) rfl (by kernel_rfl) (by kernel_rfl) (by kernel_rfl) (fun _ _ _ h => h) (Or.inl ⟨by rfl, fun w hSw => by (try dsimp only at hSw); go_simp⟩) hS1 ?_
    simp only [Act.put, List.setIfInBounds_toArray, List.set_cons_zero, List.set_cons_succ]
    refine wpAnyH_done (by kernel_rfl) ?_ _
    clear hS1
    generalize ((((((v4.setCell ⟨R, 0, none⟩ (.int .i64 (k : Nat))).setCell ⟨R, 1, none⟩ (.int .i64 (m : Nat))).setCell ⟨R, 2, none⟩ (.bool false)).setCell ⟨R, 3, none⟩ (.int .i64 (a : Nat))).setCell ⟨R, 4, none⟩ (.int .i64 (N : Nat))).setCell ⟨R, 5, none⟩ (.int .i64 0)) = wf at *
    obtain ⟨k0, _, k2, _, _, _⟩ := hdR.cells
    have y0 := Hh.IsHd.free hdR 0
    have y2 := Hh.IsHd.free hdR 2
    have HDR := hide hdR
    have BL := hide bl
    clear hdR bl
    go_upto_region 11 with fail
    clear k0 k2 y0 y2
    have hd11 := hide (hd_set2 (hd_set0 HDR.out 3) false)
    have bl11 : Below w8.heap.size w8 ((wf.setCell ⟨R, 0, none⟩ (.int .i64 3)).setCell ⟨R, 2, none⟩ (.bool false)) := (BL.out.setCell hRn _).setCell hRn _
    clear HDR BL
    generalize ((wf.setCell ⟨R, 0, none⟩ (.int .i64 3)).setCell ⟨R, 2, none⟩ (.bool false)) = w11 at *
    have bl := bl11.drew
    have hS0 := HS11.out _ bl
    refine wp_region_held_drew (S := fun wr => wr.cell? ⟨B, 0, none⟩ = some (.int .i64 (K.S : Nat)) ∧ wr.cell? ⟨B, 1, none⟩ = some (.int .i64 K.a) ∧ wr.cell? ⟨B, 2, none⟩ = some (.int .i64 (K.C : Nat)) ∧ wr.cell? ⟨B, 3, none⟩ = some (.int .i64 (K.D : Nat)) ∧ wr.cell? ⟨B, 4, none⟩ = some (.int .i64 K.g) ∧ wr.cell? ⟨B, 5, none⟩ = some (.int .i64 K.k) ∧ wr.cell? ⟨L, o + 9, none⟩ = some (.int .i64 (s : Nat))) (by kernel_rfl) hS0 (fun hS1 => ?_)
    clear hS0
    refine wpAnyH_take (i := 0) (oi := { dst := some 73, op := Go.Op.move (Go.Operand.tmp 0), type := 87, pos := "law.go:78", after := #[], guard := none }) (v := .pointer (some ⟨L, o, none⟩)) rfl (by kernel_rfl) (by kernel_rfl) (by kernel_rfl) (fun _ _ _ h => h) (Or.inl ⟨by rfl, fun w hSw => by (try dsimp only at hSw); go_simp⟩) hS1 ?_
    simp only [Act.put, List.setIfInBounds_toArray, List.set_cons_zero, List.set_cons_succ]
    refine wpAnyH_take (i := 1) (oi := { dst := some 74, op := Go.Op.move (Go.Operand.tmp 1), type := 27, pos := "law.go:78", after := #[], guard := none }) (v := .pointer (some ⟨B, 0, none⟩)) rfl (by kernel_rfl) (by kernel_rfl) (by kernel_rfl) (fun _ _ _ h => h) (Or.inl ⟨by rfl, fun w hSw => by (try dsimp only at hSw); go_simp⟩) hS1 ?_
    simp only [Act.put, List.setIfInBounds_toArray, List.set_cons_zero, List.set_cons_succ]
    refine wpAnyH_take (i := 2) (oi := { dst := some 75, op := Go.Op.nilCheck (Go.Operand.tmp 74), type := 0, pos := "law.go:78", after := #[{ on := 1, ground := Go.Ground.data }], guard := none }) (v := .pointer (some ⟨B, 0, none⟩)) rfl (by kernel_rfl) (by kernel_rfl) (by kernel_rfl) (fun _ _ _ h => h) (Or.inl ⟨by rfl, fun w hSw => by (try dsimp only at hSw); go_simp⟩) hS1 ?_
    simp only [Act.put, List.setIfInBounds_toArray, List.set_cons_zero, List.set_cons_succ]
    refine wpAnyH_take (i := 3) (oi := { dst := some 76, op := Go.Op.fieldAddr 31 (Go.Operand.tmp 75) 0, type := 0, pos := "law.go:78", after := #[{ on := 2, ground := Go.Ground.data }], guard := none }) (v := .pointer (some ⟨B, 0, none⟩)) rfl (by kernel_rfl) (by kernel_rfl) (by kernel_rfl) (fun _ _ _ h => h) (Or.inl ⟨by rfl, fun w hSw => by (try dsimp only at hSw); go_simp⟩) hS1 ?_
    simp only [Act.put, List.setIfInBounds_toArray, List.set_cons_zero, List.set_cons_succ]
    refine wpAnyH_take (i := 4) (oi := { dst := some 77, op := Go.Op.load 23 (Go.Operand.tmp 76), type := 23, pos := "law.go:78", after := #[{ on := 3, ground := Go.Ground.data }], guard := none }) (v := .agg #[.int .i64 (K.S : Nat), .int .i64 K.a, .int .i64 (K.C : Nat), .int .i64 (K.D : Nat), .int .i64 K.g, .int .i64 K.k]) rfl (by kernel_rfl) (by kernel_rfl) (by kernel_rfl) (fun _ _ _ h => h) (Or.inl ⟨by rfl, fun w hSw => by (try dsimp only at hSw); go_simp⟩) hS1 ?_
    simp only [Act.put, List.setIfInBounds_toArray, List.set_cons_zero, List.set_cons_succ]
    refine wpAnyH_take (i := 5) (oi := { dst := some 78, op := Go.Op.move (Go.Operand.tmp 0), type := 87, pos := "law.go:78", after := #[], guard := none }) (v := .pointer (some ⟨L, o, none⟩)) rfl (by kernel_rfl) (by kernel_rfl) (by kernel_rfl) (fun _ _ _ h => h) (Or.inl ⟨by rfl, fun w hSw => by (try dsimp only at hSw); go_simp⟩) hS1 ?_
    simp only [Act.put, List.setIfInBounds_toArray, List.set_cons_zero, List.set_cons_succ]
    refine wpAnyH_take (i := 6) (oi := { dst := some 79, op := Go.Op.nilCheck (Go.Operand.tmp 78), type := 0, pos := "law.go:78", after := #[{ on := 5, ground := Go.Ground.data }], guard := none }) (v := .pointer (some ⟨L, o, none⟩)) rfl (by kernel_rfl) (by kernel_rfl) (by kernel_rfl) (fun _ _ _ h => h) (Or.inl ⟨by rfl, fun w hSw => by (try dsimp only at hSw); go_simp⟩) hS1 ?_
    simp only [Act.put, List.setIfInBounds_toArray, List.set_cons_zero, List.set_cons_succ]
    refine wpAnyH_take (i := 7) (oi := { dst := some 80, op := Go.Op.fieldAddr 41 (Go.Operand.tmp 79) 5, type := 0, pos := "law.go:78", after := #[{ on := 6, ground := Go.Ground.data }], guard := none }) (v := .pointer (some ⟨L, o + 9, none⟩)) rfl (by kernel_rfl) (by kernel_rfl) (by kernel_rfl) (fun _ _ _ h => h) (Or.inl ⟨by rfl, fun w hSw => by (try dsimp only at hSw); go_simp⟩) hS1 ?_
    simp only [Act.put, List.setIfInBounds_toArray, List.set_cons_zero, List.set_cons_succ]
    refine wpAnyH_take (i := 8) (oi := { dst := some 81, op := Go.Op.load 3 (Go.Operand.tmp 80), type := 3, pos := "law.go:78", after := #[{ on := 7, ground := Go.Ground.data }], guard := none }) (v := .int .i64 (s : Nat)) rfl (by kernel_rfl) (by kernel_rfl) (by kernel_rfl) (fun _ _ _ h => h) (Or.inl ⟨by rfl, fun w hSw => by (try dsimp only at hSw); go_simp⟩) hS1 ?_
    simp only [Act.put, List.setIfInBounds_toArray, List.set_cons_zero, List.set_cons_succ]
    refine wpAnyH_ready (rs := [9]) (by kernel_rfl) (by simp) (AllReadyH.cons (o := { dst := some 82, op := Go.Op.call { callee := Go.Callee.value (Go.Operand.func 21), args := #[Go.Operand.tmp 77, Go.Operand.tmp 81], argTypes := #[23, 3] }, type := 39, pos := "law.go:78", after := #[{ on := 4, ground := Go.Ground.data }, { on := 8, ground := Go.Ground.data }], guard := none }) rfl (fun K hK => ?_) AllReadyH.nil)
    go_simp
    go_at_call 21
    with_reducible refine (c21.out _).mono ?_
    rintro e w12 ⟨P, c, rfl, nb, fa⟩
    (try simp only [])
    replace bl := seq_below bl nb.bel
    have hd12 := hide (Hh.IsHd.below hd11.out (seq_below (Below.refl _ _).drew nb.bel))
    have fin := hide (FIN.out _ bl11 _ _ _ nb fa)
    clear nb fa hd11 bl11
    refine hK.out _ _ (HS11.out _ bl) (fun hS1 => ?_)
    (try simp only [Act.put, List.setIfInBounds_toArray, List.set_cons_zero, List.set_cons_succ])
    clear hK K
    refine wpAnyH_take (i := 10) (oi := { dst := some 83, op := Go.Op.nilCheck (Go.Operand.tmp 73), type := 0, pos := "law.go:78", after := #[{ on := 0, ground := Go.Ground.data }, { on := 0, ground := Go.Ground.phase }, { on := 1, ground := Go.Ground.phase }, { on := 2, ground := Go.Ground.phase }, { on := 3, ground := Go.Ground.phase }, { on := 4, ground := Go.Ground.phase }, { on := 5, ground := Go.Ground.phase }, { on := 6, ground := Go.Ground.phase }, { on := 7, ground := Go.Ground.phase }, { on := 8, ground := Go.Ground.phase }, { on := 9, ground := Go.Ground.phase }], guard := none }) (v := .pointer (some ⟨L, o, none⟩)) rfl (by kernel_rfl) (by kernel_rfl) (by kernel_rfl) (fun _ _ _ h => h) (Or.inl ⟨by rfl, fun w hSw => by (try dsimp only at hSw); go_simp⟩) hS1 ?_
    simp only [Act.put, List.setIfInBounds_toArray, List.set_cons_zero, List.set_cons_succ]
    refine wpAnyH_take (i := 11) (oi := { dst := some 84, op := Go.Op.fieldAddr 41 (Go.Operand.tmp 83) 4, type := 0, pos := "law.go:78", after := #[{ on := 10, ground := Go.Ground.data }, { on := 0, ground := Go.Ground.phase }, { on := 1, ground := Go.Ground.phase }, { on := 2, ground := Go.Ground.phase }, { on := 3, ground := Go.Ground.phase }, { on := 4, ground := Go.Ground.phase }, { on := 5, ground := Go.Ground.phase }, { on := 6, ground := Go.Ground.phase }, { on := 7, ground := Go.Ground.phase }, { on := 8, ground := Go.Ground.phase }, { on := 9, ground := Go.Ground.phase }], guard := none }) (v := .pointer (some ⟨L, o + 8, none⟩)) rfl (by kernel_rfl) (by kernel_rfl) (by kernel_rfl) (fun _ _ _ h => h) (Or.inl ⟨by rfl, fun w hSw => by (try dsimp only at hSw); go_simp⟩) hS1 ?_
    simp only [Act.put, List.setIfInBounds_toArray, List.set_cons_zero, List.set_cons_succ]
    refine wpAnyH_ready (rs := [12]) (by kernel_rfl) (by simp) (AllReadyH.cons (o := { dst := none, op := Go.Op.store 39 (Go.Operand.tmp 84) (Go.Operand.tmp 82), type := 0, pos := "law.go:78", after := #[{ on := 11, ground := Go.Ground.data }, { on := 9, ground := Go.Ground.data }, { on := 9, ground := Go.Ground.chain }, { on := 0, ground := Go.Ground.phase }, { on := 1, ground := Go.Ground.phase }, { on := 2, ground := Go.Ground.phase }, { on := 3, ground := Go.Ground.phase }, { on := 4, ground := Go.Ground.phase }, { on := 5, ground := Go.Ground.phase }, { on := 6, ground := Go.Ground.phase }, { on := 7, ground := Go.Ground.phase }, { on := 8, ground := Go.Ground.phase }, { on := 9, ground := Go.Ground.phase }], guard := none }) rfl (fun K hK => ?_) AllReadyH.nil)
    obtain ⟨s1, s2⟩ := HS8.out _ bl
    go_simp
    obtain ⟨r13, d13, m13, t8, t9⟩ := HB12.out _ (.pointer (some ⟨P, 0, none⟩)) bl
    have x13 := HXL.out R hRn
    have hd13 := hide (((Chg.refl [L] w12).setCell (b := L) (o := o + 8) (.inl (by simp)) (.pointer (some ⟨P, 0, none⟩))).at hd12.out (by simpa using x13.1))
    obtain ⟨⟨l0, l1, l2, l3, l4, l5⟩, _, _⟩ := d13.cells
    refine hK.out _ _ ⟨l0, l1, l2, l3, l4, l5, t9⟩ (fun hS1 => ?_)
    (try simp only [Act.put, List.setIfInBounds_toArray, List.set_cons_zero, List.set_cons_succ])
    clear hK K s1 s2 l0 l1 l2 l3 l4 l5 hd12
    refine wpAnyH_done (by kernel_rfl) ?_ _
    clear hS1
    generalize w12.setCell ⟨L, o + 8, none⟩ (.pointer (some ⟨P, 0, none⟩)) = w13 at *
    have hR13 : R < w13.heap.size := lt_of_block hd13.out
    have KEEP : Hid (∀ wr, Chg [M, G] w13 wr → (wr.cell? ⟨B, 6, none⟩ = some (.pointer (some ⟨M, 0, none⟩)) ∧ wr.cell? ⟨L, o + 9, none⟩ = some (.int .i64 (s : Nat)) ∧ wr.cell? ⟨L, o + 8, none⟩ = some (.pointer (some ⟨P, 0, none⟩)) ∧ wr.cell? ⟨R, 0, none⟩ = some (.int .i64 3) ∧ wr.cell? ⟨R, 1, none⟩ = some (.int .i64 (m : Nat)) ∧ wr.cell? ⟨R, 2, none⟩ = some (.bool false) ∧ wr.cell? ⟨R, 3, none⟩ = some (.int .i64 (a : Nat)) ∧ wr.cell? ⟨R, 4, none⟩ = some (.int .i64 (N : Nat)) ∧ wr.cell? ⟨R, 5, none⟩ = some (.int .i64 0))) := fun wr cg => by
      have z := HNE.out
      have z2 : B ∉ [M, G] := by simp; exact ⟨z.2.2.2.1, z.2.2.2.2⟩
      have z3 : L ∉ [M, G] := by simp; exact ⟨Ne.symm z.2.1, Ne.symm z.2.2.1⟩
      have z4 : R ∉ [M, G] := by simp; exact ⟨x13.2.1, x13.2.2.1⟩
      have e : ∀ i, wr.cell? ⟨L, i, none⟩ = w13.cell? ⟨L, i, none⟩ := fun i => World.cell?_of_block (w := w13) (cg.block L (RowM.lt r13) z3)
      have q := Hh.IsHd.cells (cg.at hd13.out z4)
      exact ⟨(d13.chg cg z2).cells.2.1, by rw [e]; exact t9, by rw [e]; exact t8, q.1, q.2.1, q.2.2.1, q.2.2.2.1, q.2.2.2.2.1, q.2.2.2.2.2⟩
    have D13 := hide d13
    have M13 := hide m13
    clear r13 d13 m13 t8 t9 x13 hRn bl hR13 hd13
    go_upto_region 12 with fail
    have bl13 : Below w13.heap.size w13 w13.drew := (Below.refl _ _).drew
    have cg : Chg [M, G] w13 w13.drew := Chg.of_below bl13
    go_region_held (fun wr => (wr.cell? ⟨B, 6, none⟩ = some (.pointer (some ⟨M, 0, none⟩)) ∧ wr.cell? ⟨L, o + 9, none⟩ = some (.int .i64 (s : Nat)) ∧ wr.cell? ⟨L, o + 8, none⟩ = some (.pointer (some ⟨P, 0, none⟩)) ∧ wr.cell? ⟨R, 0, none⟩ = some (.int .i64 3) ∧ wr.cell? ⟨R, 1, none⟩ = some (.int .i64 (m : Nat)) ∧ wr.cell? ⟨R, 2, none⟩ = some (.bool false) ∧ wr.cell? ⟨R, 3, none⟩ = some (.int .i64 (a : Nat)) ∧ wr.cell? ⟨R, 4, none⟩ = some (.int .i64 (N : Nat)) ∧ wr.cell? ⟨R, 5, none⟩ = some (.int .i64 0))) (with_reducible exact KEEP.out _ cg) (first
      | (go_at_call 16; with_reducible refine (c16b.out _ _ D13.out bl13).mono ?_; rintro e w14 ⟨rfl, b⟩; replace bl13 := seq_below bl13 b; replace cg := Chg.then_below cg b; clear b)
      | (go_at_call 25; with_reducible refine (c25.out _).mono ?_; rintro e w14 ⟨rfl, b⟩; replace bl13 := seq_below bl13 b; replace cg := Chg.then_below cg b; clear b)
      | (go_at_call 24; with_reducible refine (c24.out _ _ M13.out bl13).mono ?_; rintro e w15 ⟨rfl, mm, cg2⟩; replace cg := cg2; clear cg2))
    go_wp2
    go_ret
    obtain ⟨f1, f2, f3, f4⟩ := fin.out _ cg
    rw [HCF.out] at f1
    exact ⟨rfl, P, f1, f2, f3, by rw [HVE.out, HHD.out]; exact mm, f4⟩
end Go.Proofs.YtjbjijkkmlehgaaDoor
