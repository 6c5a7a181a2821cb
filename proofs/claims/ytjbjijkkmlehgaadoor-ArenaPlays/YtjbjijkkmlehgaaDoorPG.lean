/- A slot was made something: is it that? -/
import Derived.Test.YtjbjijkkmlehgaaDoorPD
import Derived.Deep.QuietTactic
import Derived.BigQuiet
namespace Go.Proofs.YtjbjijkkmlehgaaDoor
open Go.RowKit
open Hh (WT wordOf okW Hr)
open Mm (IsWords)
set_option linter.unusedVariables false

theorem Chg.of_grown {w w' : World} {r : Option Nat} (h : w.grownBy w' r) : Chg r.toList w w' := ⟨h.os, h.tape, h.output, h.size, fun i hi hn => h.block i hi (by
  cases r with
  | none => simp
  | some g => simp at hn ⊢; exact fun e => hn e)⟩
theorem fill_one (B wd j : Nat) (hj : j < B) : (fillW B [wd]).getD j 0 = if j = 0 then wd else 0 := by
  unfold fillW
  cases j with
  | zero =>
    cases B with
    | zero => omega
    | succ B => simp
  | succ j =>
    cases B with
    | zero => omega
    | succ B =>
      simp only [List.cons_append, List.nil_append, List.take_succ_cons, List.getD_cons_succ]
      rw [if_neg (by omega)]
      simp only [List.getD_eq_getElem?_getD, List.getElem?_take, List.getElem?_replicate]
      split <;> (try split) <;> rfl
theorem hd_set0' {w : World} {b : Nat} {k m : Int} {g : Bool} {a n s : Int} (h : Hh.IsHd w b k m g a n s) (v : Int) : Hh.IsHd (w.setCell ⟨b, 0, none⟩ (.int .i64 v)) b v m g a n s := Hh.heap_setCell_at h _
theorem hd_set3 {w : World} {b : Nat} {k m : Int} {g : Bool} {a n s : Int} (h : Hh.IsHd w b k m g a n s) (v : Int) : Hh.IsHd (w.setCell ⟨b, 3, none⟩ (.int .i64 v)) b k m g v n s := Hh.heap_setCell_at h _
set_option maxRecDepth 100000 in
set_option maxHeartbeats 20000000 in
theorem made_yes {w : World} {K : Cf} (hK : K.Ok) {B M G D L P o s : Nat} {cur : Array Value} {m : Mk} {n : Wo} {hv : Value} {hs X md : List Nat} {T : Int} (row : RowM w L cur) (wd : WdAt w K B M D) (mem : MemX w M G X T) (hX : X.length = K.N) (cnt : IsMd w D md) (hml : md.length = K.S)
    (hne : B ≠ L ∧ D ≠ L ∧ B ≠ D ∧ M ≠ L ∧ G ≠ L ∧ M ≠ D ∧ G ≠ D) (c6 : cur[o + 6]? = some hv) (has : IsI w hv hs) (hhv : ∀ g, hv.ownBlock = some g → g ≠ L ∧ g ≠ D ∧ g ≠ B ∧ g ≠ M ∧ g ≠ G) (hlen : hs.length + 1 ≤ 65536) (c7 : cur[o + 7]? = some (.pointer (some ⟨P, 0, none⟩))) (mk : MkIn w K P m) (now : NowAt cur o n) (nok : n.Ok)
    (hf : m.full = false) (hsl : m.sl = (s : Int)) (hsS : s < K.S) (hW : X.getD (K.hd s) 0 = madeW n.kind (n.arity K) (md.getD s 0) n.e) (hg : ((md.getD s 0 : Nat) : Int) + 1 ≤ K.g) (hg40 : K.g ≤ 40) (hbd : ∀ j, j < K.B → X.getD (K.bd s j) 0 = (fillW K.B [n.wd]).getD j 0) :
    Calls Tryd.prog 42 #[.pointer (some ⟨L, o, none⟩), .pointer (some ⟨B, 0, none⟩)] w fun e w' => e = .returned (.bool true) ∧ ∃ v', RowM w' L ((cur.setIfInBounds (o + 7) (.pointer none)).setIfInBounds (o + 6) v') ∧ IsI w' v' (hs ++ [s]) ∧ (v'.ownBlock = hv.ownBlock ∨ ∃ g, v'.ownBlock = some g ∧ w.heap.size ≤ g) ∧ IsMd w' D (md.set s (md.getD s 0 + 1)) ∧ Chg ([L, D] ++ hv.ownBlock.toList) w w' := by
  have q7 := row.cell c7
  have y7 := row.free (o + 7)
  obtain ⟨m0, m1⟩ := mk.cells
  rw [hsl] at m0
  rw [hf] at m1
  have hs0 : ¬ ((s : Int) < 0) := by omega
  have ROW := hide row
  have WD := hide wd
  have MEM := hide mem
  have CNT := hide cnt
  have HAS := hide has
  have HV := hide hhv
  have C6 := hide c6
  have NOW := hide now
  have HNE := hide hne
  have HXL := hide (And.intro hX (And.intro hml (And.intro hlen hK.N_b)))
  have HK := hide hK
  have NOK := hide nok
  have HW := hide hW
  have HG := hide (And.intro hg hg40)
  have HBD := hide hbd
  have C7 := hide c7
  clear row wd mem cnt has hhv c6 now hne hX hml hlen hK nok hW hg hg40 hbd c7 mk hf hsl
  go_enter Tryd.func42, Tryd.ntmps42
  go_upto_region 6 with fail
  clear q7 y7 m0 m1 hs0
  have row1 := ROW.out.set (o + 7) (.pointer none)
  have ch1 : Chg [L] w (w.setCell ⟨L, o + 7, none⟩ (.pointer none)) := (Chg.refl [L] w).setCell (.inl (by simp)) _
  have sz1 : (w.setCell ⟨L, o + 7, none⟩ (.pointer none)).heap.size = w.heap.size := by simp
  generalize w.setCell ⟨L, o + 7, none⟩ (.pointer none) = w1 at *
  have wd1 := WdAt.chg WD.out ch1 (by simpa using HNE.out.1)
  have cnt1 := IsMd.chg CNT.out ch1 (by simpa using HNE.out.2.1)
  have hsm : s < md.length := by have := HXL.out; omega
  have b7 := wd1.cells.2.2
  have d1 := cnt1.cell hsm
  have yd := cnt1.free s
  obtain ⟨mv, hmv⟩ : ∃ mv, md.getD s 0 = mv := ⟨_, rfl⟩
  rw [hmv] at d1 HW HG
  have hw1 : IntKind.i64.wrap ((mv : Int) + 1) = ((mv + 1 : Nat) : Int) := by have := HG.out; rw [IntKind.wrap_i64]; omega
  have HWD1 := hide wd1
  have HCN1 := hide cnt1
  have HR1 := hide row1
  have HCH1 := hide ch1
  clear wd1 cnt1 row1 ch1 CNT WD ROW
  go_upto_region 7 with fail
  clear b7 d1 yd hw1
  have cnt2 := IsMd.set HCN1.out s (mv + 1)
  have ch2 : Chg [D] w1 (w1.setCell ⟨D, s, none⟩ (.int .i64 ((mv + 1 : Nat) : Int))) := (Chg.refl [D] w1).setCell (.inl (by simp)) _
  have sz2 : (w1.setCell ⟨D, s, none⟩ (.int .i64 ((mv + 1 : Nat) : Int))).heap.size = w1.heap.size := by simp
  rw [show ((mv + 1 : Nat) : Int) = (mv : Int) + 1 by omega] at cnt2 ch2 sz2
  generalize w1.setCell ⟨D, s, none⟩ (.int .i64 ((mv : Int) + 1)) = w2 at *
  have ch12 : Chg [L, D] w w2 := (HCH1.out.mono (fun i hi => .inl (by simp at hi; simp [hi]))).trans (ch2.mono (fun i hi => .inl (by simp at hi; simp [hi])))
  have row2 := RowM.chg HR1.out ch2 (by simpa using Ne.symm HNE.out.2.1)
  have I2 := IsI.chg HAS.out ch12 (fun g hg => by have := HV.out g hg; simp; omega)
  have wd2 := WdAt.chg HWD1.out ch2 (by simpa using HNE.out.2.2.1)
  have mem2 := MemX.chg MEM.out ch12 (by have := HNE.out; simp; omega) (by have := HNE.out; simp; omega)
  have p6 := row2.cell ((set_ne (by omega)).trans C6.out)
  have R2 := hide row2
  have W2 := hide wd2
  have M2 := hide mem2
  have N2 := hide cnt2
  have CH12 := hide ch12
  have SZ := hide (sz2.trans sz1)
  clear sz1 sz2
  have I2h := hide I2
  clear row2 wd2 mem2 cnt2 ch12 ch2 I2 HWD1 HCN1 HR1 HCH1 HAS MEM
  have HLen : Hid (hs.length + [s].length ≤ 1000000) := by unfold Hid; simp; have := HXL.out; omega
  have AP : Hid (∀ v' w4, IsI w4 v' (hs ++ [s]) → (w2.alloc (.cells #[.int .i64 (s : Nat)] 3)).grownBy w4 hv.ownBlock → (v'.ownBlock = hv.ownBlock ∨ ∃ g, v'.ownBlock = some g ∧ (w2.alloc (.cells #[.int .i64 (s : Nat)] 3)).heap.size ≤ g) →
      ∃ va vn vc, v' = .slice va vn vc ∧ w4.cell? ⟨L, o + 6, none⟩ = some hv ∧ w4.frozen? ⟨L, o + 6, none⟩ = false ∧ Hid (RowM w4 L (cur.setIfInBounds (o + 7) (.pointer none))) ∧ Hid (IsI w4 v' (hs ++ [s])) ∧ Hid (v'.ownBlock = hv.ownBlock ∨ ∃ g, v'.ownBlock = some g ∧ w.heap.size ≤ g) ∧ Hid (∀ g, v'.ownBlock = some g → g ≠ L) ∧ Hid (WdAt w4 K B M D) ∧ Hid (MemX w4 M G X T) ∧ Hid (IsMd w4 D (md.set s (mv + 1))) ∧ Hid (Chg ([L, D] ++ hv.ownBlock.toList) w w4)) := by
    intro v' w4 hI hgr hp
    have ch4 : Chg hv.ownBlock.toList w2 w4 := Chg.trans (Chg.of_below (alloc_below _ _)) (Chg.of_grown hgr)
    have hvL : L ∉ hv.ownBlock.toList := fun hm => (HV.out L (by simpa using hm)).1 rfl
    have hvD : D ∉ hv.ownBlock.toList := fun hm => (HV.out D (by simpa using hm)).2.1 rfl
    have hvB : B ∉ hv.ownBlock.toList := fun hm => (HV.out B (by simpa using hm)).2.2.1 rfl
    have hvM : M ∉ hv.ownBlock.toList := fun hm => (HV.out M (by simpa using hm)).2.2.2.1 rfl
    have hvG : G ∉ hv.ownBlock.toList := fun hm => (HV.out G (by simpa using hm)).2.2.2.2 rfl
    have row4 := RowM.chg R2.out ch4 hvL
    have hp2 : v'.ownBlock = hv.ownBlock ∨ ∃ g, v'.ownBlock = some g ∧ w.heap.size ≤ g := by
      rcases hp with h | ⟨g, h1, h2⟩
      · exact .inl h
      · have h3 : w2.heap.size ≤ g := Nat.le_trans (alloc_below w2 _).size h2
        exact .inr ⟨g, h1, by have := SZ.out; omega⟩
    have hvn : ∀ g, v'.ownBlock = some g → g ≠ L := fun g hg => by
      rcases hp2 with h | ⟨g', h1, h2⟩
      · exact (HV.out g (h ▸ hg)).1
      · have e : g = g' := by rw [h1] at hg; exact (Option.some.inj hg).symm
        have := RowM.lt R2.out
        have := SZ.out
        omega
    obtain ⟨va, vc, hve, _, _⟩ := hI.form
    exact ⟨va, _, vc, hve, row4.cell ((set_ne (by omega)).trans C6.out), row4.free _, row4, hI, hp2, hvn, WdAt.chg W2.out ch4 hvB, MemX.chg M2.out ch4 hvM hvG, IsMd.chg N2.out ch4 hvD, (CH12.out.mono (fun i hi => .inl (List.mem_append_left _ hi))).trans (ch4.mono (fun i hi => .inl (List.mem_append_right _ hi)))⟩
  have I3 := hide (IsI.below I2h.out (alloc_below w2 (.cells #[.int .i64 (s : Nat)] 3)))
  clear I2h
  go_upto_region 8 with (at_builtin; refine wpList_append_ints rfl _ _ rfl _ hs [s] rfl I3.out ⟨_, 0, none⟩ 1 1 rfl rfl (by simp) (one_new _ _ _) HLen.out ?_; intro v' w4 hI hgr hp; clear p6; obtain ⟨va, vn, vc, rfl, p6, y6, R4, I4, HP2, HVN, WD4, ME4, CN4, CH24⟩ := AP.out _ _ hI hgr hp; clear hI hgr hp)
  clear AP I3 HLen R2 W2 M2 N2 CH12
  clear p6 y6
  have row5 := R4.out.set (o + 6) (.slice va vn vc)
  have c45 : Chg [L] w4 (w4.setCell ⟨L, o + 6, none⟩ (.slice va vn vc)) := (Chg.refl [L] w4).setCell (.inl (by simp)) _
  generalize w4.setCell ⟨L, o + 6, none⟩ (.slice va vn vc) = w5 at *
  have WD5 := hide (WdAt.chg WD4.out c45 (by simpa using HNE.out.1))
  have ME5 := hide (MemX.chg ME4.out c45 (by have := HNE.out; simp; omega) (by have := HNE.out; simp; omega))
  have CN5 := hide (IsMd.chg CN4.out c45 (by simpa using HNE.out.2.1))
  have I5 := hide (IsI.chg I4.out c45 (fun g hg => by simpa using HVN.out g hg))
  have CH5 := hide (CH24.out.trans (c45.mono (L' := [L, D] ++ hv.ownBlock.toList) (fun i hi => .inl (by simp at hi; simp [hi]))))
  have R5 := hide row5
  clear row5 c45 WD4 ME4 CN4 I4 R4 CH24 HVN
  have hNow : Hid (NowAt ((cur.setIfInBounds (o + 7) (.pointer none)).setIfInBounds (o + 6) (.slice va vn vc)) o n) := by
    have h := NOW.out
    exact ⟨(set_ne (by omega)).trans ((set_ne (by omega)).trans h.rc), (set_ne (by omega)).trans ((set_ne (by omega)).trans h.ar), (set_ne (by omega)).trans ((set_ne (by omega)).trans h.e), (set_ne (by omega)).trans ((set_ne (by omega)).trans h.wd)⟩
  obtain ⟨c5, hc5⟩ : ∃ c5, (cur.setIfInBounds (o + 7) (.pointer none)).setIfInBounds (o + 6) (.slice va vn vc) = c5 := ⟨_, rfl⟩
  rw [hc5] at R5 hNow
  have HC5 := hide hc5
  have hmd : (md.set s (mv + 1)).getD s 0 = mv + 1 := by rw [getD_set, if_pos ⟨rfl, hsm⟩]
  have d5 : ∀ wr, Below w5.heap.size w5 wr → wr.cell? ⟨D, s, none⟩ = some (.int .i64 ((mv + 1 : Nat) : Int)) := fun wr b => by
    have h := (IsMd.below CN5.out b).cell (s := s) (by simp; exact hsm)
    rw [hmd] at h
    exact h
  have D5 := hide d5
  obtain ⟨hmay, har, ha0, ha8⟩ := may_wo HK.out n
  have hr : Hr n.kind (Hh.bornN n.e) (n.arity K) mv 0 := ⟨by unfold Wo.kind; split <;> omega, Hh.bornN_lt _, har, by have := HG.out; omega, by omega⟩
  have c15' : ∀ wr, Calls Tryd.prog 15 #[.int .u64 ((madeW n.kind (n.arity K) mv n.e : Nat) : Int)] wr fun e w' => e = .returned (.tuple #[.agg #[.int .i64 (n.kind : Nat), .int .i64 (Hh.bornN n.e : Nat), .bool false, .int .i64 (n.arity K : Nat), .int .i64 (mv : Nat), .int .i64 0], .bool true]) ∧ Below wr.heap.size wr w' := fun wr => Hh.runpack_word false hr wr
  have c66' : ∀ wr, Calls Tryd.prog 66 #[.int .u64 (n.e : Nat)] wr fun e w' => e = .returned (.int .i64 (Hh.bornN n.e : Nat)) ∧ wr = w' := fun wr => Hh.rborn_nat n.e (by have := NOK.out.e; omega) wr
  have c16' : ∀ wr, Below w5.heap.size w5 wr → Calls Tryd.prog 16 #[.pointer (some ⟨B, 0, none⟩), .string ⟨#[104, 101, 97, 100, 101, 114]⟩, .int .i64 (s : Nat), .int .i64 0] wr fun e w' => e = .returned (.int .i64 (K.hd s : Nat)) ∧ Below wr.heap.size wr w' := fun wr b => wat16_hd HK.out (WdAt.below WD5.out b) hsS
  have c16b : Hid (∀ wr j, j < K.B → Below w5.heap.size w5 wr → Calls Tryd.prog 16 #[.pointer (some ⟨B, 0, none⟩), .string ⟨#[98, 111, 100, 121]⟩, .int .i64 (s : Nat), .int .i64 (j : Nat)] wr fun e w' => e = .returned (.int .i64 (K.bd s j : Nat)) ∧ Below wr.heap.size wr w') := fun wr j hj b => wat16_bd HK.out (WdAt.below WD5.out b) hsS hj
  have c18' := room_any K.S K.a K.C K.D K.g K.k
  rw [HK.out.b] at c18'
  have c13' : Calls Tryd.prog 13 #[.pointer (some ⟨M, 0, none⟩)] w5 fun e w' => ∃ Q, e = .returned (.slice (some ⟨Q, 0, none⟩) X.length X.length) ∧ IsWords w' Q X ∧ Below w5.heap.size w5 w' := (wordsX ME5.out rfl (by have := HXL.out; omega)).mono fun e w' ⟨R, a1, a2, _, a4⟩ => ⟨R, a1, a2, a4⟩
  have hdl : K.hd s < X.length := by rw [HXL.out.1]; exact K.hd_lt hsS
  have HDL := hide hdl
  have HBL : Hid (∀ j, j < K.B → K.bd s j < X.length ∧ X.getD (K.bd s j) 0 = if j = 0 then n.wd else 0) := fun j hj => ⟨by rw [HXL.out.1]; exact K.bd_lt hsS hj, by rw [HBD.out j hj, fill_one _ _ _ hj]⟩
  have hB1 : 1 ≤ K.B := by have := HK.out.b3; omega
  have hB8 : K.B ≤ 8 := HK.out.b8
  obtain ⟨W, hWe⟩ : ∃ W, madeW n.kind (n.arity K) mv n.e = W := ⟨_, rfl⟩
  rw [hWe] at c15' HW
  obtain ⟨br, hbr⟩ : ∃ br : Int, ((Hh.bornN n.e : Nat) : Int) = br := ⟨_, rfl⟩
  rw [hbr] at c15' c66'
  obtain ⟨hd, hhd⟩ : ∃ hd, K.hd s = hd := ⟨_, rfl⟩
  rw [hhd] at hdl HDL c16' HW
  have c15 := hide c15'
  have c66 := hide c66'
  have c16 := hide c16'
  have c18 := hide c18'
  have c13 := hide c13'
  have b6 := (WdAt.cells WD5.out).2.1
  obtain ⟨NN, hNN⟩ : ∃ NN, X.length = NN := ⟨_, rfl⟩
  have hdl2 := hdl
  rw [hNN] at hdl
  have HNN := hide hNN
  have HSM := hide hsm
  have HSS := hide hsS
  clear c15' c66' c16' c18' c13' hmay hr hmd d5 hbr hhd hWe hdl2 hc5 HBD C6 C7 NOW HV hNN
  go_upto_region 9 with (go_at_call 13; refine Calls.mono c13.out ?_; rintro e w6 ⟨Q, rfl, hq, bl⟩)
  clear b6 c13
  rw [HNN.out]
  have hqc := word_cell hq HDL.out HW.out
  have HQ := hide hq
  have BL := hide bl
  clear hq bl
  go_upto_region 10 with (first
    | (go_at_call 16; refine (c16.out _ BL.out).mono ?_; rintro e w7 ⟨rfl, b⟩; replace BL := hide (seq_below BL.out b); replace HQ := hide (words_below HQ.out b); clear hqc; have hqc := word_cell HQ.out HDL.out HW.out; clear b)
    | (go_at_call 15; refine (c15.out _).mono ?_; rintro e w8 ⟨rfl, b⟩; replace BL := hide (seq_below BL.out b); replace HQ := hide (words_below HQ.out b); clear b hqc))
  have hd1 := Hh.hd_new w8 (n.kind : Nat) br false (n.arity K : Nat) (mv : Nat) 0
  replace BL := hide (seq_below BL.out (alloc_below w8 (.cells #[.int .i64 (n.kind : Nat), .int .i64 br, .bool false, .int .i64 (n.arity K : Nat), .int .i64 (mv : Nat), .int .i64 0] 48)))
  replace HQ := hide (words_below HQ.out (alloc_below w8 (.cells #[.int .i64 (n.kind : Nat), .int .i64 br, .bool false, .int .i64 (n.arity K : Nat), .int .i64 (mv : Nat), .int .i64 0] 48)))
  generalize w8.heap.size = R1 at *
  generalize w8.alloc (.cells #[.int .i64 (n.kind : Nat), .int .i64 br, .bool false, .int .i64 (n.arity K : Nat), .int .i64 (mv : Nat), .int .i64 0] 48) = w9 at *
  have HD1 := hide hd1
  have hw1 : IntKind.i64.wrap (K.a + 1) = K.a + 1 := by rw [IntKind.wrap_i64]; omega
  have hne0 : ¬ K.a + 1 = 0 := by omega
  have hwe : IntKind.u64.wrap (n.e : Int) = (n.e : Nat) := by have := NOK.out.e; rw [IntKind.wrap_u64]; omega
  have hw8 : wrap64 (n.ar : Int) = (n.ar : Nat) := by have := NOK.out.ar; unfold wrap64; omega
  have hwi : IntKind.i64.wrap (n.ar : Int) = (n.ar : Nat) := by have := NOK.out.ar; rw [IntKind.wrap_i64]; omega
  obtain ⟨av, hav⟩ : ∃ av, (wrap64 (n.ar : Int)).tmod (K.a + 1) = av := ⟨_, rfl⟩
  have HAV : Hid (n.rc = false → ((n.arity K : Nat) : Int) = av) := fun hrc => arity_wo n ha0 ha8 NOK.out hrc hav
  rw [hw8] at hav
  obtain ⟨m1, hm1⟩ : ∃ m1 : Int, ((mv + 1 : Nat) : Int) = m1 := ⟨_, rfl⟩
  rw [hm1] at D5
  have hsub : IntKind.i64.wrap (m1 - 1) = (mv : Nat) := by have := HG.out; rw [IntKind.wrap_i64]; omega
  have hm1g : m1 ≤ K.g := by have := HG.out; omega
  have HM1 := hide hm1g
  have FC : Hid (∀ wr, Below w5.heap.size w5 wr → (wr.cell? ⟨B, 0, none⟩ = some (.int .i64 (K.S : Nat)) ∧ wr.cell? ⟨B, 1, none⟩ = some (.int .i64 K.a) ∧ wr.cell? ⟨B, 2, none⟩ = some (.int .i64 (K.C : Nat)) ∧ wr.cell? ⟨B, 3, none⟩ = some (.int .i64 (K.D : Nat)) ∧ wr.cell? ⟨B, 4, none⟩ = some (.int .i64 K.g) ∧ wr.cell? ⟨B, 5, none⟩ = some (.int .i64 K.k)) ∧ wr.cell? ⟨B, 7, none⟩ = some (.slice (some ⟨D, 0, none⟩) K.S K.S) ∧ wr.cell? ⟨D, s, none⟩ = some (.int .i64 m1) ∧ wr.cell? ⟨L, o + 2, none⟩ = some (.bool n.rc) ∧ wr.cell? ⟨L, o + 3, none⟩ = some (.int .u8 (n.ar : Nat)) ∧ wr.cell? ⟨L, o + 4, none⟩ = some (.int .u8 (n.e : Nat)) ∧ wr.cell? ⟨L, o + 5, none⟩ = some (.int .u64 (n.wd : Nat))) := fun wr b => by
    have r := RowM.below R5.out b
    have q := (WdAt.below WD5.out b).cells
    have z := hNow.out
    exact ⟨q.1, q.2.2, D5.out _ b, r.cell z.rc, r.cell z.ar, r.cell z.e, r.cell z.wd⟩
  have KEY : Hid (∀ wz, Below w5.heap.size w5 wz → ∃ v', RowM wz L ((cur.setIfInBounds (o + 7) (.pointer none)).setIfInBounds (o + 6) v') ∧ IsI wz v' (hs ++ [s]) ∧ (v'.ownBlock = hv.ownBlock ∨ ∃ g, v'.ownBlock = some g ∧ w.heap.size ≤ g) ∧ IsMd wz D (md.set s (md.getD s 0 + 1)) ∧ Chg ([L, D] ++ hv.ownBlock.toList) w wz) := fun wz bx => ⟨.slice va vn vc, by rw [HC5.out]; exact RowM.below R5.out bx, IsI.below I5.out bx, HP2.out, by rw [hmv]; exact IsMd.below CN5.out bx, CH5.out.then_below bx⟩
  have HC : Hid (∀ wr, Below w9.heap.size w9 wr → wr.cell? ⟨L, o + 4, none⟩ = some (.int .u8 (n.e : Nat)) ∧ wr.cell? ⟨L, o + 3, none⟩ = some (.int .u8 (n.ar : Nat)) ∧ wr.cell? ⟨B, 1, none⟩ = some (.int .i64 K.a) ∧ wr.cell? ⟨B, 7, none⟩ = some (.slice (some ⟨D, 0, none⟩) K.S K.S) ∧ wr.cell? ⟨D, s, none⟩ = some (.int .i64 m1)) := fun wr b => by
    have q := FC.out wr (seq_below BL.out b)
    exact ⟨q.2.2.2.2.2.1, q.2.2.2.2.1, q.1.2.1, q.2.1, q.2.2.1⟩
  clear hd1 hm1 hm1g HW c15 c16 HG hdl hmv
  have HQ0 := HQ
  have BL0 := BL
  have bl : Below w9.heap.size w9 w9.drew := (Below.refl _ _).drew
  have hS0 := HC.out _ bl
  refine wp_region_held_drew (S := fun wr => wr.cell? ⟨L, o + 4, none⟩ = some (.int .u8 (n.e : Nat)) ∧ wr.cell? ⟨L, o + 3, none⟩ = some (.int .u8 (n.ar : Nat)) ∧ wr.cell? ⟨B, 1, none⟩ = some (.int .i64 K.a) ∧ wr.cell? ⟨B, 7, none⟩ = some (.slice (some ⟨D, 0, none⟩) K.S K.S) ∧ wr.cell? ⟨D, s, none⟩ = some (.int .i64 m1)) (by kernel_rfl) hS0 (fun hS1 => ?_)
  clear hS0
  refine wpAnyH_take (i := 0) (oi := { dst := some 74, op := Go.Op.move (Go.Operand.tmp 0), type := 87, pos := "law.go:130", after := #[], guard := none }) (v := .pointer (some ⟨L, o, none⟩)) rfl (by kernel_rfl) (by kernel_rfl) (by kernel_rfl) (fun _ _ _ h => h) (Or.inl ⟨by rfl, fun w hSw => by (try dsimp only at hSw); go_simp⟩) hS1 ?_
  simp only [Act.put, List.setIfInBounds_toArray, List.set_cons_zero, List.set_cons_succ]
  refine wpAnyH_take (i := 1) (oi := { dst := some 75, op := Go.Op.nilCheck (Go.Operand.tmp 74), type := 0, pos := "law.go:130", after := #[{ on := 0, ground := Go.Ground.data }], guard := none }) (v := .pointer (some ⟨L, o, none⟩)) rfl (by kernel_rfl) (by kernel_rfl) (by kernel_rfl) (fun _ _ _ h => h) (Or.inl ⟨by rfl, fun w hSw => by (try dsimp only at hSw); go_simp⟩) hS1 ?_
  simp only [Act.put, List.setIfInBounds_toArray, List.set_cons_zero, List.set_cons_succ]
  refine wpAnyH_take (i := 2) (oi := { dst := some 76, op := Go.Op.fieldAddr 41 (Go.Operand.tmp 75) 1, type := 0, pos := "law.go:130", after := #[{ on := 1, ground := Go.Ground.data }], guard := none }) (v := .pointer (some ⟨L, o + 1, none⟩)) rfl (by kernel_rfl) (by kernel_rfl) (by kernel_rfl) (fun _ _ _ h => h) (Or.inl ⟨by rfl, fun w hSw => by (try dsimp only at hSw); go_simp⟩) hS1 ?_
  simp only [Act.put, List.setIfInBounds_toArray, List.set_cons_zero, List.set_cons_succ]
  refine wpAnyH_take (i := 3) (oi := { dst := some 77, op := Go.Op.fieldAddr 37 (Go.Operand.tmp 76) 3, type := 0, pos := "law.go:130", after := #[{ on := 2, ground := Go.Ground.data }], guard := none }) (v := .pointer (some ⟨L, o + 4, none⟩)) rfl (by kernel_rfl) (by kernel_rfl) (by kernel_rfl) (fun _ _ _ h => h) (Or.inl ⟨by rfl, fun w hSw => by (try dsimp only at hSw); go_simp⟩) hS1 ?_
  simp only [Act.put, List.setIfInBounds_toArray, List.set_cons_zero, List.set_cons_succ]
  refine wpAnyH_take (i := 4) (oi := { dst := some 78, op := Go.Op.load 5 (Go.Operand.tmp 77), type := 5, pos := "law.go:130", after := #[{ on := 3, ground := Go.Ground.data }], guard := none }) (v := .int .u8 (n.e : Nat)) rfl (by kernel_rfl) (by kernel_rfl) (by kernel_rfl) (fun _ _ _ h => h) (Or.inl ⟨by rfl, fun w hSw => by (try dsimp only at hSw); go_simp⟩) hS1 ?_
  simp only [Act.put, List.setIfInBounds_toArray, List.set_cons_zero, List.set_cons_succ]
  refine wpAnyH_take (i := 5) (oi := { dst := some 79, op := Go.Op.convert 5 35 (Go.Operand.tmp 78), type := 35, pos := "law.go:130", after := #[{ on := 4, ground := Go.Ground.data }], guard := none }) (v := .int .u64 (n.e : Nat)) rfl (by kernel_rfl) (by kernel_rfl) (by kernel_rfl) (fun _ _ _ h => h) (Or.inl ⟨by rfl, fun w hSw => by (try dsimp only at hSw); go_simp⟩) hS1 ?_
  simp only [Act.put, List.setIfInBounds_toArray, List.set_cons_zero, List.set_cons_succ]
  refine wpAnyH_take (i := 7) (oi := { dst := some 81, op := Go.Op.move (Go.Operand.tmp 0), type := 87, pos := "law.go:130", after := #[], guard := none }) (v := .pointer (some ⟨L, o, none⟩)) rfl (by kernel_rfl) (by kernel_rfl) (by kernel_rfl) (fun _ _ _ h => h) (Or.inl ⟨by rfl, fun w hSw => by (try dsimp only at hSw); go_simp⟩) hS1 ?_
  simp only [Act.put, List.setIfInBounds_toArray, List.set_cons_zero, List.set_cons_succ]
  refine wpAnyH_take (i := 8) (oi := { dst := some 82, op := Go.Op.nilCheck (Go.Operand.tmp 81), type := 0, pos := "law.go:130", after := #[{ on := 7, ground := Go.Ground.data }], guard := none }) (v := .pointer (some ⟨L, o, none⟩)) rfl (by kernel_rfl) (by kernel_rfl) (by kernel_rfl) (fun _ _ _ h => h) (Or.inl ⟨by rfl, fun w hSw => by (try dsimp only at hSw); go_simp⟩) hS1 ?_
  simp only [Act.put, List.setIfInBounds_toArray, List.set_cons_zero, List.set_cons_succ]
  refine wpAnyH_take (i := 9) (oi := { dst := some 83, op := Go.Op.fieldAddr 41 (Go.Operand.tmp 82) 1, type := 0, pos := "law.go:130", after := #[{ on := 8, ground := Go.Ground.data }], guard := none }) (v := .pointer (some ⟨L, o + 1, none⟩)) rfl (by kernel_rfl) (by kernel_rfl) (by kernel_rfl) (fun _ _ _ h => h) (Or.inl ⟨by rfl, fun w hSw => by (try dsimp only at hSw); go_simp⟩) hS1 ?_
  simp only [Act.put, List.setIfInBounds_toArray, List.set_cons_zero, List.set_cons_succ]
  refine wpAnyH_take (i := 10) (oi := { dst := some 84, op := Go.Op.fieldAddr 37 (Go.Operand.tmp 83) 2, type := 0, pos := "law.go:130", after := #[{ on := 9, ground := Go.Ground.data }], guard := none }) (v := .pointer (some ⟨L, o + 3, none⟩)) rfl (by kernel_rfl) (by kernel_rfl) (by kernel_rfl) (fun _ _ _ h => h) (Or.inl ⟨by rfl, fun w hSw => by (try dsimp only at hSw); go_simp⟩) hS1 ?_
  simp only [Act.put, List.setIfInBounds_toArray, List.set_cons_zero, List.set_cons_succ]
  refine wpAnyH_take (i := 11) (oi := { dst := some 85, op := Go.Op.load 5 (Go.Operand.tmp 84), type := 5, pos := "law.go:130", after := #[{ on := 10, ground := Go.Ground.data }], guard := none }) (v := .int .u8 (n.ar : Nat)) rfl (by kernel_rfl) (by kernel_rfl) (by kernel_rfl) (fun _ _ _ h => h) (Or.inl ⟨by rfl, fun w hSw => by (try dsimp only at hSw); go_simp⟩) hS1 ?_
  simp only [Act.put, List.setIfInBounds_toArray, List.set_cons_zero, List.set_cons_succ]
  refine wpAnyH_take (i := 12) (oi := { dst := some 86, op := Go.Op.convert 5 3 (Go.Operand.tmp 85), type := 3, pos := "law.go:130", after := #[{ on := 11, ground := Go.Ground.data }], guard := none }) (v := .int .i64 (n.ar : Nat)) rfl (by kernel_rfl) (by kernel_rfl) (by kernel_rfl) (fun _ _ _ h => h) (Or.inl ⟨by rfl, fun w hSw => by (try dsimp only at hSw); go_simp⟩) hS1 ?_
  simp only [Act.put, List.setIfInBounds_toArray, List.set_cons_zero, List.set_cons_succ]
  refine wpAnyH_take (i := 13) (oi := { dst := some 87, op := Go.Op.move (Go.Operand.tmp 1), type := 27, pos := "law.go:130", after := #[], guard := none }) (v := .pointer (some ⟨B, 0, none⟩)) rfl (by kernel_rfl) (by kernel_rfl) (by kernel_rfl) (fun _ _ _ h => h) (Or.inl ⟨by rfl, fun w hSw => by (try dsimp only at hSw); go_simp⟩) hS1 ?_
  simp only [Act.put, List.setIfInBounds_toArray, List.set_cons_zero, List.set_cons_succ]
  refine wpAnyH_take (i := 14) (oi := { dst := some 88, op := Go.Op.nilCheck (Go.Operand.tmp 87), type := 0, pos := "law.go:130", after := #[{ on := 13, ground := Go.Ground.data }], guard := none }) (v := .pointer (some ⟨B, 0, none⟩)) rfl (by kernel_rfl) (by kernel_rfl) (by kernel_rfl) (fun _ _ _ h => h) (Or.inl ⟨by rfl, fun w hSw => by (try dsimp only at hSw); go_simp⟩) hS1 ?_
  simp only [Act.put, List.setIfInBounds_toArray, List.set_cons_zero, List.set_cons_succ]
  refine wpAnyH_take (i := 15) (oi := { dst := some 89, op := Go.Op.fieldAddr 31 (Go.Operand.tmp 88) 0, type := 0, pos := "law.go:130", after := #[{ on := 14, ground := Go.Ground.data }], guard := none }) (v := .pointer (some ⟨B, 0, none⟩)) rfl (by kernel_rfl) (by kernel_rfl) (by kernel_rfl) (fun _ _ _ h => h) (Or.inl ⟨by rfl, fun w hSw => by (try dsimp only at hSw); go_simp⟩) hS1 ?_
  simp only [Act.put, List.setIfInBounds_toArray, List.set_cons_zero, List.set_cons_succ]
  refine wpAnyH_take (i := 16) (oi := { dst := some 90, op := Go.Op.fieldAddr 23 (Go.Operand.tmp 89) 1, type := 0, pos := "law.go:130", after := #[{ on := 15, ground := Go.Ground.data }], guard := none }) (v := .pointer (some ⟨B, 1, none⟩)) rfl (by kernel_rfl) (by kernel_rfl) (by kernel_rfl) (fun _ _ _ h => h) (Or.inl ⟨by rfl, fun w hSw => by (try dsimp only at hSw); go_simp⟩) hS1 ?_
  simp only [Act.put, List.setIfInBounds_toArray, List.set_cons_zero, List.set_cons_succ]
  refine wpAnyH_take (i := 17) (oi := { dst := some 91, op := Go.Op.load 3 (Go.Operand.tmp 90), type := 3, pos := "law.go:130", after := #[{ on := 16, ground := Go.Ground.data }], guard := none }) (v := .int .i64 K.a) rfl (by kernel_rfl) (by kernel_rfl) (by kernel_rfl) (fun _ _ _ h => h) (Or.inl ⟨by rfl, fun w hSw => by (try dsimp only at hSw); go_simp⟩) hS1 ?_
  simp only [Act.put, List.setIfInBounds_toArray, List.set_cons_zero, List.set_cons_succ]
  refine wpAnyH_take (i := 18) (oi := { dst := some 92, op := Go.Op.binOp Go.BinOp.add 3 (Go.Operand.tmp 91) (Go.Operand.const (Go.Value.int Go.IntKind.i64 1)) 3, type := 3, pos := "law.go:130", after := #[{ on := 17, ground := Go.Ground.data }], guard := none }) (v := .int .i64 (K.a + 1)) rfl (by kernel_rfl) (by kernel_rfl) (by kernel_rfl) (fun _ _ _ h => h) (Or.inl ⟨by rfl, fun w hSw => by (try dsimp only at hSw); go_simp⟩) hS1 ?_
  simp only [Act.put, List.setIfInBounds_toArray, List.set_cons_zero, List.set_cons_succ]
  refine wpAnyH_take (i := 19) (oi := { dst := some 93, op := Go.Op.binOp Go.BinOp.rem 3 (Go.Operand.tmp 86) (Go.Operand.tmp 92) 3, type := 3, pos := "law.go:130", after := #[{ on := 12, ground := Go.Ground.data }, { on := 18, ground := Go.Ground.data }], guard := none }) (v := .int .i64 av) rfl (by kernel_rfl) (by kernel_rfl) (by kernel_rfl) (fun _ _ _ h => h) (Or.inl ⟨by rfl, fun w hSw => by (try dsimp only at hSw); go_simp⟩) hS1 ?_
  simp only [Act.put, List.setIfInBounds_toArray, List.set_cons_zero, List.set_cons_succ]
  refine wpAnyH_take (i := 20) (oi := { dst := some 94, op := Go.Op.move (Go.Operand.tmp 1), type := 27, pos := "law.go:130", after := #[], guard := none }) (v := .pointer (some ⟨B, 0, none⟩)) rfl (by kernel_rfl) (by kernel_rfl) (by kernel_rfl) (fun _ _ _ h => h) (Or.inl ⟨by rfl, fun w hSw => by (try dsimp only at hSw); go_simp⟩) hS1 ?_
  simp only [Act.put, List.setIfInBounds_toArray, List.set_cons_zero, List.set_cons_succ]
  refine wpAnyH_take (i := 21) (oi := { dst := some 95, op := Go.Op.nilCheck (Go.Operand.tmp 94), type := 0, pos := "law.go:130", after := #[{ on := 20, ground := Go.Ground.data }], guard := none }) (v := .pointer (some ⟨B, 0, none⟩)) rfl (by kernel_rfl) (by kernel_rfl) (by kernel_rfl) (fun _ _ _ h => h) (Or.inl ⟨by rfl, fun w hSw => by (try dsimp only at hSw); go_simp⟩) hS1 ?_
  simp only [Act.put, List.setIfInBounds_toArray, List.set_cons_zero, List.set_cons_succ]
  refine wpAnyH_take (i := 22) (oi := { dst := some 96, op := Go.Op.fieldAddr 31 (Go.Operand.tmp 95) 2, type := 0, pos := "law.go:130", after := #[{ on := 21, ground := Go.Ground.data }], guard := none }) (v := .pointer (some ⟨B, 7, none⟩)) rfl (by kernel_rfl) (by kernel_rfl) (by kernel_rfl) (fun _ _ _ h => h) (Or.inl ⟨by rfl, fun w hSw => by (try dsimp only at hSw); go_simp⟩) hS1 ?_
  simp only [Act.put, List.setIfInBounds_toArray, List.set_cons_zero, List.set_cons_succ]
  refine wpAnyH_take (i := 23) (oi := { dst := some 97, op := Go.Op.load 25 (Go.Operand.tmp 96), type := 25, pos := "law.go:130", after := #[{ on := 22, ground := Go.Ground.data }], guard := none }) (v := .slice (some ⟨D, 0, none⟩) K.S K.S) rfl (by kernel_rfl) (by kernel_rfl) (by kernel_rfl) (fun _ _ _ h => h) (Or.inl ⟨by rfl, fun w hSw => by (try dsimp only at hSw); go_simp⟩) hS1 ?_
  simp only [Act.put, List.setIfInBounds_toArray, List.set_cons_zero, List.set_cons_succ]
  refine wpAnyH_take (i := 24) (oi := { dst := some 98, op := Go.Op.move (Go.Operand.tmp 5), type := 3, pos := "law.go:130", after := #[], guard := none }) (v := .int .i64 (s : Nat)) rfl (by kernel_rfl) (by kernel_rfl) (by kernel_rfl) (fun _ _ _ h => h) (Or.inl ⟨by rfl, fun w hSw => by (try dsimp only at hSw); go_simp⟩) hS1 ?_
  simp only [Act.put, List.setIfInBounds_toArray, List.set_cons_zero, List.set_cons_succ]
  refine wpAnyH_take (i := 25) (oi := { dst := some 99, op := Go.Op.indexAddr 25 (Go.Operand.tmp 97) (Go.Operand.tmp 98), type := 0, pos := "law.go:130", after := #[{ on := 23, ground := Go.Ground.data }, { on := 24, ground := Go.Ground.data }], guard := none }) (v := .pointer (some ⟨D, s, none⟩)) rfl (by kernel_rfl) (by kernel_rfl) (by kernel_rfl) (fun _ _ _ h => h) (Or.inl ⟨by rfl, fun w hSw => by (try dsimp only at hSw); go_simp⟩) hS1 ?_
  simp only [Act.put, List.setIfInBounds_toArray, List.set_cons_zero, List.set_cons_succ]
  refine wpAnyH_take (i := 26) (oi := { dst := some 100, op := Go.Op.load 3 (Go.Operand.tmp 99), type := 3, pos := "law.go:130", after := #[{ on := 25, ground := Go.Ground.data }], guard := none }) (v := .int .i64 m1) rfl (by kernel_rfl) (by kernel_rfl) (by kernel_rfl) (fun _ _ _ h => h) (Or.inl ⟨by rfl, fun w hSw => by (try dsimp only at hSw); go_simp⟩) hS1 ?_
  simp only [Act.put, List.setIfInBounds_toArray, List.set_cons_zero, List.set_cons_succ]
  refine wpAnyH_take (i := 27) (oi := { dst := some 101, op := Go.Op.binOp Go.BinOp.sub 3 (Go.Operand.tmp 100) (Go.Operand.const (Go.Value.int Go.IntKind.i64 1)) 3, type := 3, pos := "law.go:130", after := #[{ on := 26, ground := Go.Ground.data }], guard := none }) (v := .int .i64 (mv : Nat)) rfl (by kernel_rfl) (by kernel_rfl) (by kernel_rfl) (fun _ _ _ h => h) (Or.inl ⟨by rfl, fun w hSw => by (try dsimp only at hSw); go_simp⟩) hS1 ?_
  simp only [Act.put, List.setIfInBounds_toArray, List.set_cons_zero, List.set_cons_succ]
  refine wpAnyH_ready (rs := [6, 29]) (by kernel_rfl) (by simp) (AllReadyH.cons (o := { dst := some 80, op := Go.Op.call { callee := Go.Callee.value (Go.Operand.func 66), args := #[Go.Operand.tmp 79], argTypes := #[35] }, type := 3, pos := "law.go:130", after := #[{ on := 5, ground := Go.Ground.data }], guard := none }) rfl (fun K hK => ?_) (AllReadyH.cons (o := { dst := some 10, op := Go.Op.alloc 48, type := 0, pos := "law.go:130", after := #[], guard := none }) rfl (fun K hK => ?_) AllReadyH.nil))
  · go_simp
    go_at_call 66
    with_reducible refine (c66.out _).mono ?_
    rintro e w10 ⟨rfl, rfl⟩
    (try simp only [])
    refine hK.out _ _ (HC.out _ bl) (fun hS1 => ?_)
    (try simp only [Act.put, List.setIfInBounds_toArray, List.set_cons_zero, List.set_cons_succ])
    clear hK K
    refine wpAnyH_take (i := 28) (oi := { dst := some 102, op := Go.Op.build 48 #[(0, Go.Operand.const (Go.Value.int Go.IntKind.i64 1)), (1, Go.Operand.tmp 80), (3, Go.Operand.tmp 93), (4, Go.Operand.tmp 101)], type := 48, pos := "law.go:130", after := #[{ on := 6, ground := Go.Ground.data }, { on := 19, ground := Go.Ground.data }, { on := 27, ground := Go.Ground.data }], guard := none }) (v := .agg #[.int .i64 1, .int .i64 br, .bool false, .int .i64 av, .int .i64 (mv : Nat), .int .i64 0]) rfl (by kernel_rfl) (by kernel_rfl) (by kernel_rfl) (fun _ _ _ h => h) (Or.inl ⟨by rfl, fun w hSw => by (try dsimp only at hSw); go_simp⟩) hS1 ?_
    simp only [Act.put, List.setIfInBounds_toArray, List.set_cons_zero, List.set_cons_succ]
    refine wpAnyH_ready (rs := [29]) (by kernel_rfl) (by simp) (AllReadyH.cons (o := { dst := some 10, op := Go.Op.alloc 48, type := 0, pos := "law.go:130", after := #[], guard := none }) rfl (fun K hK => ?_) AllReadyH.nil)
    go_simp
    have hz := hide (HdN.ofNewD w9)
    replace bl := ((Below.refl w9.heap.size w9).alloc (Nat.le_refl _) (.cells #[.int .i64 0, .int .i64 0, .bool false, .int .i64 0, .int .i64 0, .int .i64 0] 48)).drew
    refine hK.out _ _ (HC.out _ bl) (fun hS1 => ?_)
    (try simp only [Act.put, List.setIfInBounds_toArray, List.set_cons_zero, List.set_cons_succ])
    clear hK K
    generalize w9.heap.size = R2 at hz ⊢
    generalize (w9.alloc (.cells #[.int .i64 0, .int .i64 0, .bool false, .int .i64 0, .int .i64 0, .int .i64 0] 48)).drew = wA at *
    refine wpAnyH_ready (rs := [30]) (by kernel_rfl) (by simp) (AllReadyH.cons (o := { dst := none, op := Go.Op.store 48 (Go.Operand.tmp 10) (Go.Operand.tmp 102), type := 0, pos := "law.go:130", after := #[{ on := 29, ground := Go.Ground.data }, { on := 28, ground := Go.Ground.data }, { on := 6, ground := Go.Ground.chain }, { on := 0, ground := Go.Ground.phase }, { on := 1, ground := Go.Ground.phase }, { on := 2, ground := Go.Ground.phase }, { on := 3, ground := Go.Ground.phase }, { on := 4, ground := Go.Ground.phase }, { on := 5, ground := Go.Ground.phase }, { on := 6, ground := Go.Ground.phase }, { on := 7, ground := Go.Ground.phase }, { on := 8, ground := Go.Ground.phase }, { on := 9, ground := Go.Ground.phase }, { on := 10, ground := Go.Ground.phase }, { on := 11, ground := Go.Ground.phase }, { on := 12, ground := Go.Ground.phase }, { on := 13, ground := Go.Ground.phase }, { on := 14, ground := Go.Ground.phase }, { on := 15, ground := Go.Ground.phase }, { on := 16, ground := Go.Ground.phase }, { on := 17, ground := Go.Ground.phase }, { on := 18, ground := Go.Ground.phase }, { on := 19, ground := Go.Ground.phase }, { on := 20, ground := Go.Ground.phase }, { on := 21, ground := Go.Ground.phase }, { on := 22, ground := Go.Ground.phase }, { on := 23, ground := Go.Ground.phase }, { on := 24, ground := Go.Ground.phase }, { on := 25, ground := Go.Ground.phase }, { on := 26, ground := Go.Ground.phase }, { on := 27, ground := Go.Ground.phase }, { on := 28, ground := Go.Ground.phase }, { on := 29, ground := Go.Ground.phase }], guard := none }) rfl (fun K hK => ?_) AllReadyH.nil)
    obtain ⟨⟨q0, q1, q2, q3, q4, q5⟩, y⟩ := hz.out.cells
    have y0 := y 0
    have y1 := y 1
    have y2 := y 2
    have y3 := y 3
    have y4 := y 4
    have y5 := y 5
    clear y
    go_simp
    replace bl := hz.out.six bl (.int .i64 1) (.int .i64 br) (.bool false) (.int .i64 av) (.int .i64 (mv : Nat)) (.int .i64 0)
    have H2 := hide (Hh.hd_stored hz.out.hd 1 br false av (mv : Nat) 0)
    have hRn := hz.out.new
    refine hK.out _ _ (HC.out _ bl) (fun hS1 => ?_)
    (try simp only [Act.put, List.setIfInBounds_toArray, List.set_cons_zero, List.set_cons_succ])
    clear hK K q0 q1 q2 q3 q4 q5 y0 y1 y2 y3 y4 y5 hz
    refine wpAnyH_done (by kernel_rfl) ?_ _
    clear hS1
    generalize ((((((wA.setCell ⟨R2, 0, none⟩ (.int .i64 1)).setCell ⟨R2, 1, none⟩ (.int .i64 br)).setCell ⟨R2, 2, none⟩ (.bool false)).setCell ⟨R2, 3, none⟩ (.int .i64 av)).setCell ⟨R2, 4, none⟩ (.int .i64 (mv : Nat))).setCell ⟨R2, 5, none⟩ (.int .i64 0)) = wf at *
    have hR12 : R1 ≠ R2 := by have h := lt_of_block HD1.out; omega
    have BG := hide (seq_below BL.out bl)
    have H1 := hide (Hh.IsHd.below HD1.out bl)
    replace HQ := hide (words_below HQ.out bl)
    have hQR : Q ≠ R2 := by have h := lt_of_block HQ0.out; omega
    clear bl BL HC hw1 hne0 hwe hw8 hwi hav hsub
    obtain ⟨_, _, _, p2, _, _, _⟩ := FC.out _ BG.out
    cases hrc : n.rc
    · rw [hrc] at p2
      have ek : n.kind = 1 := by unfold Wo.kind; simp [hrc]
      have ea := HAV.out hrc
      rw [ek, ea] at H1
      replace H1 : Hid (Hh.IsHd wf R1 1 br false av (mv : Nat) 0) := H1
      have HRC := hide hrc
      clear hrc ek ea HAV
      go_upto_region 14 with fail
      clear p2
      go_wp2
      go_loopw [11] (fun i wr => ∃ j : Nat, j ≤ K.B ∧ i = .int .i64 j ∧ Below w5.heap.size w5 wr ∧ IsWords wr Q X ∧ Hh.IsHd wr R1 1 br false av (mv : Nat) 0 ∧ Hh.IsHd wr R2 1 br false av (mv : Nat) 0) (fun i _ => K.B - (intOf i).toNat)
      case atStart => exact ⟨0, Nat.zero_le _, rfl, BG.out, HQ.out, H1.out, H2.out⟩
      case round =>
        clear BG HQ H1 H2
        obtain ⟨j, hj, rfl, bl, hq, h1, h2⟩ := hrel
        obtain ⟨⟨l0, l1, l2, l3, l4, l5⟩, b7, ds, p2, p3, p4, p5⟩ := FC.out _ bl
        clear p2 p3 p4
        by_cases hjB : j < K.B
        · have hjB' : (j : Int) < (K.B : Int) := by omega
          have hbd := hide (HBL.out j hjB)
          have c16j := hide (fun wr b => c16b.out wr j hjB b)
          have hbl := hbd.out.1
          rw [HNN.out] at hbl
          obtain ⟨bd, hbe⟩ : ∃ bd, K.bd s j = bd := ⟨_, rfl⟩
          rw [hbe] at hbd c16j hbl
          clear hbe
          have BLh := hide bl
          have HQh := hide hq
          have H1h := hide h1
          have H2h := hide h2
          clear bl hq h1 h2 b7 ds
          by_cases hj0 : j = 0
          · have hbd2 := hbd.out.2
            rw [if_pos hj0] at hbd2
            have HB2 := hide hbd2
            have HB1 := hide hbd.out.1
            clear hbd hbd2
            subst hj0
            have c16z : Hid (∀ wr, Below w5.heap.size w5 wr → Calls Tryd.prog 16 #[.pointer (some ⟨B, 0, none⟩), .string ⟨#[98, 111, 100, 121]⟩, .int .i64 (s : Nat), .int .i64 0] wr fun e w' => e = .returned (.int .i64 (bd : Nat)) ∧ Below wr.heap.size wr w') := c16j.out
            go_wp2_with (first
              | (go_at_call 18; with_reducible refine (c18.out _).mono ?_; rintro e wb ⟨rfl, b⟩; replace BLh := hide (seq_below BLh.out b); replace HQh := hide (words_below HQh.out b); replace H1h := hide (Hh.IsHd.below H1h.out b); replace H2h := hide (Hh.IsHd.below H2h.out b); clear b)
              | (go_at_call 16; with_reducible refine (c16z.out _ BLh.out).mono ?_; rintro e wc ⟨rfl, b⟩; replace BLh := hide (seq_below BLh.out b); replace HQh := hide (words_below HQh.out b); replace H1h := hide (Hh.IsHd.below H1h.out b); replace H2h := hide (Hh.IsHd.below H2h.out b); clear b p5; have hqc := word_cell HQh.out HB1.out HB2.out; have p5 := (FC.out _ BLh.out).2.2.2.2.2.2))
            go_roundw
            case rel => exact ⟨1, by omega, by go_num, BLh.out, HQh.out, H1h.out, H2h.out⟩
            case measure => simp [intOf]; omega
          · have hbd2 := hbd.out.2
            rw [if_neg hj0] at hbd2
            have HB2 := hide hbd2
            have HB1 := hide hbd.out.1
            have hj1 : ¬ ((j : Int) = 0) := by omega
            have hj2 : (0 : Int) < (j : Int) := by omega
            clear hbd hbd2 hj0
            go_wp2_with (first
              | (go_at_call 18; with_reducible refine (c18.out _).mono ?_; rintro e wb ⟨rfl, b⟩; replace BLh := hide (seq_below BLh.out b); replace HQh := hide (words_below HQh.out b); replace H1h := hide (Hh.IsHd.below H1h.out b); replace H2h := hide (Hh.IsHd.below H2h.out b); clear b)
              | (go_at_call 16; with_reducible refine (c16j.out _ BLh.out).mono ?_; rintro e wc ⟨rfl, b⟩; replace BLh := hide (seq_below BLh.out b); replace HQh := hide (words_below HQh.out b); replace H1h := hide (Hh.IsHd.below H1h.out b); replace H2h := hide (Hh.IsHd.below H2h.out b); clear b p5; have hqc := word_cell HQh.out HB1.out HB2.out))
            go_roundw
            case rel => exact ⟨j + 1, by omega, by go_num, BLh.out, HQh.out, H1h.out, H2h.out⟩
            case measure => simp [intOf]; omega
        · have hje : j = K.B := by omega
          subst hje
          have BLh := hide bl
          have H1h := hide h1
          have H2h := hide h2
          clear bl hq h1 h2 b7 ds p5
          go_upto_region 20 with (first
            | (go_at_call 18; with_reducible refine (c18.out _).mono ?_; rintro e wb ⟨rfl, b⟩; replace BLh := hide (seq_below BLh.out b); replace H1h := hide (Hh.IsHd.below H1h.out b); replace H2h := hide (Hh.IsHd.below H2h.out b); clear b l0 l1 l2 l3 l4 l5))
          obtain ⟨⟨l0, l1, l2, l3, l4, l5⟩, b7, ds, p2, p3, p4, p5⟩ := FC.out _ BLh.out
          clear l0 l1 l2 l3 l5 p2 p3 p4 p5
          obtain ⟨g0, g1, g2, g3, g4, g5⟩ := Hh.IsHd.cells H1h.out
          obtain ⟨k0, k1, k2, k3, k4, k5⟩ := Hh.IsHd.cells H2h.out
          have hle := HM1.out
          go_quiet (fail)
          go_wp2
          go_ret
          first | exact ⟨rfl, KEY.out _ (Hh.below_drewN BLh.out _)⟩ | exact ⟨rfl, KEY.out _ BLh.out.drew⟩ | exact ⟨rfl, KEY.out _ BLh.out⟩
    · rw [hrc] at p2
      have ek : n.kind = 2 := by unfold Wo.kind; simp [hrc]
      have ea : n.arity K = 0 := by unfold Wo.arity; simp [hrc]
      rw [ek, ea] at H1
      replace H1 : Hid (Hh.IsHd wf R1 2 br false 0 (mv : Nat) 0) := H1
      have HRC := hide hrc
      clear hrc ek ea HAV
      obtain ⟨k0, _, _, k3, _, _⟩ := Hh.IsHd.cells H2.out
      have y0 := Hh.IsHd.free H2.out 0
      have y3 := Hh.IsHd.free H2.out 3
      go_upto_region 14 with fail
      clear p2 k0 k3 y0 y3
      have hn5 : w5.heap.size ≤ R2 := by have h := BL0.out.size; omega
      have ch : Chg [R2] wf ((wf.setCell ⟨R2, 0, none⟩ (.int .i64 2)).setCell ⟨R2, 3, none⟩ (.int .i64 0)) := ((Chg.refl [R2] wf).setCell (.inl (by simp)) _).setCell (.inl (by simp)) _
      replace BG := hide (((BG.out.setCell (p := ⟨R2, 0, none⟩) hn5 (.int .i64 2)).setCell (p := ⟨R2, 3, none⟩) hn5 (.int .i64 0)))
      replace H2 := hide (hd_set3 (hd_set0' H2.out 2) 0)
      replace H1 := hide (show Hh.IsHd _ R1 2 br false 0 (mv : Nat) 0 from ch.at H1.out (by simpa using hR12))
      replace HQ := hide (words_chg HQ.out ch (by simpa using hQR))
      clear ch
      generalize (wf.setCell ⟨R2, 0, none⟩ (.int .i64 2)).setCell ⟨R2, 3, none⟩ (.int .i64 0) = wg at *
      go_wp2
      go_loopw [11] (fun i wr => ∃ j : Nat, j ≤ K.B ∧ i = .int .i64 j ∧ Below w5.heap.size w5 wr ∧ IsWords wr Q X ∧ Hh.IsHd wr R1 2 br false 0 (mv : Nat) 0 ∧ Hh.IsHd wr R2 2 br false 0 (mv : Nat) 0) (fun i _ => K.B - (intOf i).toNat)
      case atStart => exact ⟨0, Nat.zero_le _, rfl, BG.out, HQ.out, H1.out, H2.out⟩
      case round =>
        clear BG HQ H1 H2
        obtain ⟨j, hj, rfl, bl, hq, h1, h2⟩ := hrel
        obtain ⟨⟨l0, l1, l2, l3, l4, l5⟩, b7, ds, p2, p3, p4, p5⟩ := FC.out _ bl
        clear p2 p3 p4
        by_cases hjB : j < K.B
        · have hjB' : (j : Int) < (K.B : Int) := by omega
          have hbd := hide (HBL.out j hjB)
          have c16j := hide (fun wr b => c16b.out wr j hjB b)
          have hbl := hbd.out.1
          rw [HNN.out] at hbl
          obtain ⟨bd, hbe⟩ : ∃ bd, K.bd s j = bd := ⟨_, rfl⟩
          rw [hbe] at hbd c16j hbl
          clear hbe
          have BLh := hide bl
          have HQh := hide hq
          have H1h := hide h1
          have H2h := hide h2
          clear bl hq h1 h2 b7 ds
          by_cases hj0 : j = 0
          · have hbd2 := hbd.out.2
            rw [if_pos hj0] at hbd2
            have HB2 := hide hbd2
            have HB1 := hide hbd.out.1
            clear hbd hbd2
            subst hj0
            have c16z : Hid (∀ wr, Below w5.heap.size w5 wr → Calls Tryd.prog 16 #[.pointer (some ⟨B, 0, none⟩), .string ⟨#[98, 111, 100, 121]⟩, .int .i64 (s : Nat), .int .i64 0] wr fun e w' => e = .returned (.int .i64 (bd : Nat)) ∧ Below wr.heap.size wr w') := c16j.out
            go_wp2_with (first
              | (go_at_call 18; with_reducible refine (c18.out _).mono ?_; rintro e wb ⟨rfl, b⟩; replace BLh := hide (seq_below BLh.out b); replace HQh := hide (words_below HQh.out b); replace H1h := hide (Hh.IsHd.below H1h.out b); replace H2h := hide (Hh.IsHd.below H2h.out b); clear b)
              | (go_at_call 16; with_reducible refine (c16z.out _ BLh.out).mono ?_; rintro e wc ⟨rfl, b⟩; replace BLh := hide (seq_below BLh.out b); replace HQh := hide (words_below HQh.out b); replace H1h := hide (Hh.IsHd.below H1h.out b); replace H2h := hide (Hh.IsHd.below H2h.out b); clear b p5; have hqc := word_cell HQh.out HB1.out HB2.out; have p5 := (FC.out _ BLh.out).2.2.2.2.2.2))
            go_roundw
            case rel => exact ⟨1, by omega, by go_num, BLh.out, HQh.out, H1h.out, H2h.out⟩
            case measure => simp [intOf]; omega
          · have hbd2 := hbd.out.2
            rw [if_neg hj0] at hbd2
            have HB2 := hide hbd2
            have HB1 := hide hbd.out.1
            have hj1 : ¬ ((j : Int) = 0) := by omega
            have hj2 : (0 : Int) < (j : Int) := by omega
            clear hbd hbd2 hj0
            go_wp2_with (first
              | (go_at_call 18; with_reducible refine (c18.out _).mono ?_; rintro e wb ⟨rfl, b⟩; replace BLh := hide (seq_below BLh.out b); replace HQh := hide (words_below HQh.out b); replace H1h := hide (Hh.IsHd.below H1h.out b); replace H2h := hide (Hh.IsHd.below H2h.out b); clear b)
              | (go_at_call 16; with_reducible refine (c16j.out _ BLh.out).mono ?_; rintro e wc ⟨rfl, b⟩; replace BLh := hide (seq_below BLh.out b); replace HQh := hide (words_below HQh.out b); replace H1h := hide (Hh.IsHd.below H1h.out b); replace H2h := hide (Hh.IsHd.below H2h.out b); clear b p5; have hqc := word_cell HQh.out HB1.out HB2.out))
            go_roundw
            case rel => exact ⟨j + 1, by omega, by go_num, BLh.out, HQh.out, H1h.out, H2h.out⟩
            case measure => simp [intOf]; omega
        · have hje : j = K.B := by omega
          subst hje
          have BLh := hide bl
          have H1h := hide h1
          have H2h := hide h2
          clear bl hq h1 h2 b7 ds p5
          go_upto_region 20 with (first
            | (go_at_call 18; with_reducible refine (c18.out _).mono ?_; rintro e wb ⟨rfl, b⟩; replace BLh := hide (seq_below BLh.out b); replace H1h := hide (Hh.IsHd.below H1h.out b); replace H2h := hide (Hh.IsHd.below H2h.out b); clear b l0 l1 l2 l3 l4 l5))
          obtain ⟨⟨l0, l1, l2, l3, l4, l5⟩, b7, ds, p2, p3, p4, p5⟩ := FC.out _ BLh.out
          clear l0 l1 l2 l3 l5 p2 p3 p4 p5
          obtain ⟨g0, g1, g2, g3, g4, g5⟩ := Hh.IsHd.cells H1h.out
          obtain ⟨k0, k1, k2, k3, k4, k5⟩ := Hh.IsHd.cells H2h.out
          have hle := HM1.out
          go_quiet (fail)
          go_wp2
          go_ret
          first | exact ⟨rfl, KEY.out _ (Hh.below_drewN BLh.out _)⟩ | exact ⟨rfl, KEY.out _ BLh.out.drew⟩ | exact ⟨rfl, KEY.out _ BLh.out⟩
  · go_simp
    have hz := hide (HdN.ofNewD w9)
    replace bl := ((Below.refl w9.heap.size w9).alloc (Nat.le_refl _) (.cells #[.int .i64 0, .int .i64 0, .bool false, .int .i64 0, .int .i64 0, .int .i64 0] 48)).drew
    refine hK.out _ _ (HC.out _ bl) (fun hS1 => ?_)
    (try simp only [Act.put, List.setIfInBounds_toArray, List.set_cons_zero, List.set_cons_succ])
    clear hK K
    generalize w9.heap.size = R2 at hz ⊢
    generalize (w9.alloc (.cells #[.int .i64 0, .int .i64 0, .bool false, .int .i64 0, .int .i64 0, .int .i64 0] 48)).drew = wA at *
    refine wpAnyH_ready (rs := [6]) (by kernel_rfl) (by simp) (AllReadyH.cons (o := { dst := some 80, op := Go.Op.call { callee := Go.Callee.value (Go.Operand.func 66), args := #[Go.Operand.tmp 79], argTypes := #[35] }, type := 3, pos := "law.go:130", after := #[{ on := 5, ground := Go.Ground.data }], guard := none }) rfl (fun K hK => ?_) AllReadyH.nil)
    go_simp
    go_at_call 66
    with_reducible refine (c66.out _).mono ?_
    rintro e w10 ⟨rfl, rfl⟩
    (try simp only [])
    refine hK.out _ _ (HC.out _ bl) (fun hS1 => ?_)
    (try simp only [Act.put, List.setIfInBounds_toArray, List.set_cons_zero, List.set_cons_succ])
    clear hK K
    refine wpAnyH_take (i := 28) (oi := { dst := some 102, op := Go.Op.build 48 #[(0, Go.Operand.const (Go.Value.int Go.IntKind.i64 1)), (1, Go.Operand.tmp 80), (3, Go.Operand.tmp 93), (4, Go.Operand.tmp 101)], type := 48, pos := "law.go:130", after := #[{ on := 6, ground := Go.Ground.data }, { on := 19, ground := Go.Ground.data }, { on := 27, ground := Go.Ground.data }], guard := none }) (v := .agg #[.int .i64 1, .int .i64 br, .bool false, .int .i64 av, .int .i64 (mv : Nat), .int .i64 0]) rfl (by kernel_rfl) (by kernel_rfl) (by kernel_rfl) (fun _ _ _ h => h) (Or.inl ⟨by rfl, fun w hSw => by (try dsimp only at hSw); go_simp⟩) hS1 ?_
    simp only [Act.put, List.setIfInBounds_toArray, List.set_cons_zero, List.set_cons_succ]
    refine wpAnyH_ready (rs := [30]) (by kernel_rfl) (by simp) (AllReadyH.cons (o := { dst := none, op := Go.Op.store 48 (Go.Operand.tmp 10) (Go.Operand.tmp 102), type := 0, pos := "law.go:130", after := #[{ on := 29, ground := Go.Ground.data }, { on := 28, ground := Go.Ground.data }, { on := 6, ground := Go.Ground.chain }, { on := 0, ground := Go.Ground.phase }, { on := 1, ground := Go.Ground.phase }, { on := 2, ground := Go.Ground.phase }, { on := 3, ground := Go.Ground.phase }, { on := 4, ground := Go.Ground.phase }, { on := 5, ground := Go.Ground.phase }, { on := 6, ground := Go.Ground.phase }, { on := 7, ground := Go.Ground.phase }, { on := 8, ground := Go.Ground.phase }, { on := 9, ground := Go.Ground.phase }, { on := 10, ground := Go.Ground.phase }, { on := 11, ground := Go.Ground.phase }, { on := 12, ground := Go.Ground.phase }, { on := 13, ground := Go.Ground.phase }, { on := 14, ground := Go.Ground.phase }, { on := 15, ground := Go.Ground.phase }, { on := 16, ground := Go.Ground.phase }, { on := 17, ground := Go.Ground.phase }, { on := 18, ground := Go.Ground.phase }, { on := 19, ground := Go.Ground.phase }, { on := 20, ground := Go.Ground.phase }, { on := 21, ground := Go.Ground.phase }, { on := 22, ground := Go.Ground.phase }, { on := 23, ground := Go.Ground.phase }, { on := 24, ground := Go.Ground.phase }, { on := 25, ground := Go.Ground.phase }, { on := 26, ground := Go.Ground.phase }, { on := 27, ground := Go.Ground.phase }, { on := 28, ground := Go.Ground.phase }, { on := 29, ground := Go.Ground.phase }], guard := none }) rfl (fun K hK => ?_) AllReadyH.nil)
    obtain ⟨⟨q0, q1, q2, q3, q4, q5⟩, y⟩ := hz.out.cells
    have y0 := y 0
    have y1 := y 1
    have y2 := y 2
    have y3 := y 3
    have y4 := y 4
    have y5 := y 5
    clear y
    go_simp
    replace bl := hz.out.six bl (.int .i64 1) (.int .i64 br) (.bool false) (.int .i64 av) (.int .i64 (mv : Nat)) (.int .i64 0)
    have H2 := hide (Hh.hd_stored hz.out.hd 1 br false av (mv : Nat) 0)
    have hRn := hz.out.new
    refine hK.out _ _ (HC.out _ bl) (fun hS1 => ?_)
    (try simp only [Act.put, List.setIfInBounds_toArray, List.set_cons_zero, List.set_cons_succ])
    clear hK K q0 q1 q2 q3 q4 q5 y0 y1 y2 y3 y4 y5 hz
    refine wpAnyH_done (by kernel_rfl) ?_ _
    clear hS1
    generalize ((((((wA.setCell ⟨R2, 0, none⟩ (.int .i64 1)).setCell ⟨R2, 1, none⟩ (.int .i64 br)).setCell ⟨R2, 2, none⟩ (.bool false)).setCell ⟨R2, 3, none⟩ (.int .i64 av)).setCell ⟨R2, 4, none⟩ (.int .i64 (mv : Nat))).setCell ⟨R2, 5, none⟩ (.int .i64 0)) = wf at *
    have hR12 : R1 ≠ R2 := by have h := lt_of_block HD1.out; omega
    have BG := hide (seq_below BL.out bl)
    have H1 := hide (Hh.IsHd.below HD1.out bl)
    replace HQ := hide (words_below HQ.out bl)
    have hQR : Q ≠ R2 := by have h := lt_of_block HQ0.out; omega
    clear bl BL HC hw1 hne0 hwe hw8 hwi hav hsub
    obtain ⟨_, _, _, p2, _, _, _⟩ := FC.out _ BG.out
    cases hrc : n.rc
    · rw [hrc] at p2
      have ek : n.kind = 1 := by unfold Wo.kind; simp [hrc]
      have ea := HAV.out hrc
      rw [ek, ea] at H1
      replace H1 : Hid (Hh.IsHd wf R1 1 br false av (mv : Nat) 0) := H1
      have HRC := hide hrc
      clear hrc ek ea HAV
      go_upto_region 14 with fail
      clear p2
      go_wp2
      go_loopw [11] (fun i wr => ∃ j : Nat, j ≤ K.B ∧ i = .int .i64 j ∧ Below w5.heap.size w5 wr ∧ IsWords wr Q X ∧ Hh.IsHd wr R1 1 br false av (mv : Nat) 0 ∧ Hh.IsHd wr R2 1 br false av (mv : Nat) 0) (fun i _ => K.B - (intOf i).toNat)
      case atStart => exact ⟨0, Nat.zero_le _, rfl, BG.out, HQ.out, H1.out, H2.out⟩
      case round =>
        clear BG HQ H1 H2
        obtain ⟨j, hj, rfl, bl, hq, h1, h2⟩ := hrel
        obtain ⟨⟨l0, l1, l2, l3, l4, l5⟩, b7, ds, p2, p3, p4, p5⟩ := FC.out _ bl
        clear p2 p3 p4
        by_cases hjB : j < K.B
        · have hjB' : (j : Int) < (K.B : Int) := by omega
          have hbd := hide (HBL.out j hjB)
          have c16j := hide (fun wr b => c16b.out wr j hjB b)
          have hbl := hbd.out.1
          rw [HNN.out] at hbl
          obtain ⟨bd, hbe⟩ : ∃ bd, K.bd s j = bd := ⟨_, rfl⟩
          rw [hbe] at hbd c16j hbl
          clear hbe
          have BLh := hide bl
          have HQh := hide hq
          have H1h := hide h1
          have H2h := hide h2
          clear bl hq h1 h2 b7 ds
          by_cases hj0 : j = 0
          · have hbd2 := hbd.out.2
            rw [if_pos hj0] at hbd2
            have HB2 := hide hbd2
            have HB1 := hide hbd.out.1
            clear hbd hbd2
            subst hj0
            have c16z : Hid (∀ wr, Below w5.heap.size w5 wr → Calls Tryd.prog 16 #[.pointer (some ⟨B, 0, none⟩), .string ⟨#[98, 111, 100, 121]⟩, .int .i64 (s : Nat), .int .i64 0] wr fun e w' => e = .returned (.int .i64 (bd : Nat)) ∧ Below wr.heap.size wr w') := c16j.out
            go_wp2_with (first
              | (go_at_call 18; with_reducible refine (c18.out _).mono ?_; rintro e wb ⟨rfl, b⟩; replace BLh := hide (seq_below BLh.out b); replace HQh := hide (words_below HQh.out b); replace H1h := hide (Hh.IsHd.below H1h.out b); replace H2h := hide (Hh.IsHd.below H2h.out b); clear b)
              | (go_at_call 16; with_reducible refine (c16z.out _ BLh.out).mono ?_; rintro e wc ⟨rfl, b⟩; replace BLh := hide (seq_below BLh.out b); replace HQh := hide (words_below HQh.out b); replace H1h := hide (Hh.IsHd.below H1h.out b); replace H2h := hide (Hh.IsHd.below H2h.out b); clear b p5; have hqc := word_cell HQh.out HB1.out HB2.out; have p5 := (FC.out _ BLh.out).2.2.2.2.2.2))
            go_roundw
            case rel => exact ⟨1, by omega, by go_num, BLh.out, HQh.out, H1h.out, H2h.out⟩
            case measure => simp [intOf]; omega
          · have hbd2 := hbd.out.2
            rw [if_neg hj0] at hbd2
            have HB2 := hide hbd2
            have HB1 := hide hbd.out.1
            have hj1 : ¬ ((j : Int) = 0) := by omega
            have hj2 : (0 : Int) < (j : Int) := by omega
            clear hbd hbd2 hj0
            go_wp2_with (first
              | (go_at_call 18; with_reducible refine (c18.out _).mono ?_; rintro e wb ⟨rfl, b⟩; replace BLh := hide (seq_below BLh.out b); replace HQh := hide (words_below HQh.out b); replace H1h := hide (Hh.IsHd.below H1h.out b); replace H2h := hide (Hh.IsHd.below H2h.out b); clear b)
              | (go_at_call 16; with_reducible refine (c16j.out _ BLh.out).mono ?_; rintro e wc ⟨rfl, b⟩; replace BLh := hide (seq_below BLh.out b); replace HQh := hide (words_below HQh.out b); replace H1h := hide (Hh.IsHd.below H1h.out b); replace H2h := hide (Hh.IsHd.below H2h.out b); clear b p5; have hqc := word_cell HQh.out HB1.out HB2.out))
            go_roundw
            case rel => exact ⟨j + 1, by omega, by go_num, BLh.out, HQh.out, H1h.out, H2h.out⟩
            case measure => simp [intOf]; omega
        · have hje : j = K.B := by omega
          subst hje
          have BLh := hide bl
          have H1h := hide h1
          have H2h := hide h2
          clear bl hq h1 h2 b7 ds p5
          go_upto_region 20 with (first
            | (go_at_call 18; with_reducible refine (c18.out _).mono ?_; rintro e wb ⟨rfl, b⟩; replace BLh := hide (seq_below BLh.out b); replace H1h := hide (Hh.IsHd.below H1h.out b); replace H2h := hide (Hh.IsHd.below H2h.out b); clear b l0 l1 l2 l3 l4 l5))
          obtain ⟨⟨l0, l1, l2, l3, l4, l5⟩, b7, ds, p2, p3, p4, p5⟩ := FC.out _ BLh.out
          clear l0 l1 l2 l3 l5 p2 p3 p4 p5
          obtain ⟨g0, g1, g2, g3, g4, g5⟩ := Hh.IsHd.cells H1h.out
          obtain ⟨k0, k1, k2, k3, k4, k5⟩ := Hh.IsHd.cells H2h.out
          have hle := HM1.out
          go_quiet (fail)
          go_wp2
          go_ret
          first | exact ⟨rfl, KEY.out _ (Hh.below_drewN BLh.out _)⟩ | exact ⟨rfl, KEY.out _ BLh.out.drew⟩ | exact ⟨rfl, KEY.out _ BLh.out⟩
    · rw [hrc] at p2
      have ek : n.kind = 2 := by unfold Wo.kind; simp [hrc]
      have ea : n.arity K = 0 := by unfold Wo.arity; simp [hrc]
      rw [ek, ea] at H1
      replace H1 : Hid (Hh.IsHd wf R1 2 br false 0 (mv : Nat) 0) := H1
      have HRC := hide hrc
      clear hrc ek ea HAV
      obtain ⟨k0, _, _, k3, _, _⟩ := Hh.IsHd.cells H2.out
      have y0 := Hh.IsHd.free H2.out 0
      have y3 := Hh.IsHd.free H2.out 3
      go_upto_region 14 with fail
      clear p2 k0 k3 y0 y3
      have hn5 : w5.heap.size ≤ R2 := by have h := BL0.out.size; omega
      have ch : Chg [R2] wf ((wf.setCell ⟨R2, 0, none⟩ (.int .i64 2)).setCell ⟨R2, 3, none⟩ (.int .i64 0)) := ((Chg.refl [R2] wf).setCell (.inl (by simp)) _).setCell (.inl (by simp)) _
      replace BG := hide (((BG.out.setCell (p := ⟨R2, 0, none⟩) hn5 (.int .i64 2)).setCell (p := ⟨R2, 3, none⟩) hn5 (.int .i64 0)))
      replace H2 := hide (hd_set3 (hd_set0' H2.out 2) 0)
      replace H1 := hide (show Hh.IsHd _ R1 2 br false 0 (mv : Nat) 0 from ch.at H1.out (by simpa using hR12))
      replace HQ := hide (words_chg HQ.out ch (by simpa using hQR))
      clear ch
      generalize (wf.setCell ⟨R2, 0, none⟩ (.int .i64 2)).setCell ⟨R2, 3, none⟩ (.int .i64 0) = wg at *
      go_wp2
      go_loopw [11] (fun i wr => ∃ j : Nat, j ≤ K.B ∧ i = .int .i64 j ∧ Below w5.heap.size w5 wr ∧ IsWords wr Q X ∧ Hh.IsHd wr R1 2 br false 0 (mv : Nat) 0 ∧ Hh.IsHd wr R2 2 br false 0 (mv : Nat) 0) (fun i _ => K.B - (intOf i).toNat)
      case atStart => exact ⟨0, Nat.zero_le _, rfl, BG.out, HQ.out, H1.out, H2.out⟩
      case round =>
        clear BG HQ H1 H2
        obtain ⟨j, hj, rfl, bl, hq, h1, h2⟩ := hrel
        obtain ⟨⟨l0, l1, l2, l3, l4, l5⟩, b7, ds, p2, p3, p4, p5⟩ := FC.out _ bl
        clear p2 p3 p4
        by_cases hjB : j < K.B
        · have hjB' : (j : Int) < (K.B : Int) := by omega
          have hbd := hide (HBL.out j hjB)
          have c16j := hide (fun wr b => c16b.out wr j hjB b)
          have hbl := hbd.out.1
          rw [HNN.out] at hbl
          obtain ⟨bd, hbe⟩ : ∃ bd, K.bd s j = bd := ⟨_, rfl⟩
          rw [hbe] at hbd c16j hbl
          clear hbe
          have BLh := hide bl
          have HQh := hide hq
          have H1h := hide h1
          have H2h := hide h2
          clear bl hq h1 h2 b7 ds
          by_cases hj0 : j = 0
          · have hbd2 := hbd.out.2
            rw [if_pos hj0] at hbd2
            have HB2 := hide hbd2
            have HB1 := hide hbd.out.1
            clear hbd hbd2
            subst hj0
            have c16z : Hid (∀ wr, Below w5.heap.size w5 wr → Calls Tryd.prog 16 #[.pointer (some ⟨B, 0, none⟩), .string ⟨#[98, 111, 100, 121]⟩, .int .i64 (s : Nat), .int .i64 0] wr fun e w' => e = .returned (.int .i64 (bd : Nat)) ∧ Below wr.heap.size wr w') := c16j.out
            go_wp2_with (first
              | (go_at_call 18; with_reducible refine (c18.out _).mono ?_; rintro e wb ⟨rfl, b⟩; replace BLh := hide (seq_below BLh.out b); replace HQh := hide (words_below HQh.out b); replace H1h := hide (Hh.IsHd.below H1h.out b); replace H2h := hide (Hh.IsHd.below H2h.out b); clear b)
              | (go_at_call 16; with_reducible refine (c16z.out _ BLh.out).mono ?_; rintro e wc ⟨rfl, b⟩; replace BLh := hide (seq_below BLh.out b); replace HQh := hide (words_below HQh.out b); replace H1h := hide (Hh.IsHd.below H1h.out b); replace H2h := hide (Hh.IsHd.below H2h.out b); clear b p5; have hqc := word_cell HQh.out HB1.out HB2.out; have p5 := (FC.out _ BLh.out).2.2.2.2.2.2))
            go_roundw
            case rel => exact ⟨1, by omega, by go_num, BLh.out, HQh.out, H1h.out, H2h.out⟩
            case measure => simp [intOf]; omega
          · have hbd2 := hbd.out.2
            rw [if_neg hj0] at hbd2
            have HB2 := hide hbd2
            have HB1 := hide hbd.out.1
            have hj1 : ¬ ((j : Int) = 0) := by omega
            have hj2 : (0 : Int) < (j : Int) := by omega
            clear hbd hbd2 hj0
            go_wp2_with (first
              | (go_at_call 18; with_reducible refine (c18.out _).mono ?_; rintro e wb ⟨rfl, b⟩; replace BLh := hide (seq_below BLh.out b); replace HQh := hide (words_below HQh.out b); replace H1h := hide (Hh.IsHd.below H1h.out b); replace H2h := hide (Hh.IsHd.below H2h.out b); clear b)
              | (go_at_call 16; with_reducible refine (c16j.out _ BLh.out).mono ?_; rintro e wc ⟨rfl, b⟩; replace BLh := hide (seq_below BLh.out b); replace HQh := hide (words_below HQh.out b); replace H1h := hide (Hh.IsHd.below H1h.out b); replace H2h := hide (Hh.IsHd.below H2h.out b); clear b p5; have hqc := word_cell HQh.out HB1.out HB2.out))
            go_roundw
            case rel => exact ⟨j + 1, by omega, by go_num, BLh.out, HQh.out, H1h.out, H2h.out⟩
            case measure => simp [intOf]; omega
        · have hje : j = K.B := by omega
          subst hje
          have BLh := hide bl
          have H1h := hide h1
          have H2h := hide h2
          clear bl hq h1 h2 b7 ds p5
          go_upto_region 20 with (first
            | (go_at_call 18; with_reducible refine (c18.out _).mono ?_; rintro e wb ⟨rfl, b⟩; replace BLh := hide (seq_below BLh.out b); replace H1h := hide (Hh.IsHd.below H1h.out b); replace H2h := hide (Hh.IsHd.below H2h.out b); clear b l0 l1 l2 l3 l4 l5))
          obtain ⟨⟨l0, l1, l2, l3, l4, l5⟩, b7, ds, p2, p3, p4, p5⟩ := FC.out _ BLh.out
          clear l0 l1 l2 l3 l5 p2 p3 p4 p5
          obtain ⟨g0, g1, g2, g3, g4, g5⟩ := Hh.IsHd.cells H1h.out
          obtain ⟨k0, k1, k2, k3, k4, k5⟩ := Hh.IsHd.cells H2h.out
          have hle := HM1.out
          go_quiet (fail)
          go_wp2
          go_ret
          first | exact ⟨rfl, KEY.out _ (Hh.below_drewN BLh.out _)⟩ | exact ⟨rfl, KEY.out _ BLh.out.drew⟩ | exact ⟨rfl, KEY.out _ BLh.out⟩
end Go.Proofs.YtjbjijkkmlehgaaDoor
