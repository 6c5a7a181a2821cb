/- mark's Found: the walk. -/
import Derived.Test.YtcioomopgdhlmaaGreatDoorCFb
import Derived.Test.YtcioomopgdhlmaaGreatDoorPSizes
import Derived.Deep.RegionHeld3
import Derived.Deep.OwnRows
namespace Go.Proofs.YtcioomopgdhlmaaGreatDoor
open Go.RowKit
open Mm (IsMem MS touched Only IsWords)
open Hh (WT okW wordOf IsHd)

theorem Tryz.info4 : (Tryz.prog.info? 4).map (fun i => (i.zero, i.size, i.bytes)) = some (some (.bool false), 1, 1) := by kernel_rfl
theorem Fw.two {w wr : World} {K : Cf} {bc bw be b off cap e : Nat} (h : Fw w wr K bc bw be b off cap e) : wr.cell? ⟨bc, 0, none⟩ = some (.int .i64 (K.S : Nat)) ∧ wr.cell? ⟨bc, 1, none⟩ = some (.int .i64 K.a) ∧ wr.cell? ⟨bc, 2, none⟩ = some (.int .i64 (K.C : Nat)) ∧ wr.cell? ⟨bc, 3, none⟩ = some (.int .i64 (K.D : Nat)) ∧ wr.cell? ⟨bc, 4, none⟩ = some (.int .i64 K.g) ∧ wr.cell? ⟨bc, 5, none⟩ = some (.int .i64 K.k) ∧ wr.cell? ⟨bw, 0, none⟩ = some (.slice (some ⟨b, off, none⟩) K.N cap) := by
  obtain ⟨h0, h1, h2, h3, h4, h5⟩ := h.cfg.cells
  exact ⟨h0, h1, h2, h3, h4, h5, by simp [World.cell?, h.ws]⟩
theorem Fv.w {w wr : World} {K : Cf} {bc bw be R bm bt b off cap e : Nat} {u v vf : Value} {W Ff : List Int} {M : Nat → Bool} (h : Fv w wr K bc bw be R bm bt b off cap e u v W M vf Ff) : wr.cell? ⟨bw, 0, none⟩ = some (.slice (some ⟨b, off, none⟩) K.N cap) := by simp [World.cell?, h.ws]
theorem Fv.rdm {w wr : World} {K : Cf} {bc bw be R bm bt b off cap e : Nat} {u v vf : Value} {F Ff : List Int} {M : Nat → Bool} (h : Fv w wr K bc bw be R bm bt b off cap e u v F M vf Ff) {L W : Nat} (hR : ∀ w', Below w.heap.size w w' → w'.cell? ⟨b, off + L, none⟩ = some (.int .u64 (W : Nat))) : wr.cell? ⟨bc, 0, none⟩ = some (.int .i64 (K.S : Nat)) ∧ wr.cell? ⟨bc, 1, none⟩ = some (.int .i64 K.a) ∧ wr.cell? ⟨bc, 2, none⟩ = some (.int .i64 (K.C : Nat)) ∧ wr.cell? ⟨bc, 3, none⟩ = some (.int .i64 (K.D : Nat)) ∧ wr.cell? ⟨bc, 4, none⟩ = some (.int .i64 K.g) ∧ wr.cell? ⟨bc, 5, none⟩ = some (.int .i64 K.k) ∧ wr.cell? ⟨bw, 0, none⟩ = some (.slice (some ⟨b, off, none⟩) K.N cap) ∧ wr.cell? ⟨be, 0, none⟩ = some (.int .u64 (e : Nat)) ∧ wr.cell? ⟨b, off + L, none⟩ = some (.int .u64 (W : Nat)) ∧ wr.cell? ⟨bm, 0, none⟩ = some (.slice (some ⟨R, 0, none⟩) K.S K.S) := by
  obtain ⟨h0, h1, h2, h3, h4, h5, h6, h7, h8⟩ := h.rd hR
  exact ⟨h0, h1, h2, h3, h4, h5, h6, h7, h8, h.m⟩
/-- What holds at each jump. -/
def FJ (w : World) (K : Cf) (X : List Nat) (b off cap e n : Nat) (a : Act) (wr : World) : Prop :=
  ∃ (bc bw be R bm bt : Nat) (W : List Nat) (M : Nat → Bool) (vt : Value) (F : List Int) (ad : Option Addr) (q cp : Nat) (u9 u10 u11 u12 u15 u16 u17 u18 u19 u20 u21 u22 u23 u24 u25 u26 u27 u28 u29 u30 u31 u32 u33 u34 u35 u36 u37 u38 u39 u40 u41 u42 u43 u44 u45 u46 u47 u48 u49 u50 u51 u52 u53 u54 u55 u56 u57 u58 u59 u60 u61 u62 u63 u64 u65 u66 u67 u68 u69 u70 u71 u72 u73 u74 u75 u76 u77 u78 u79 u80 u81 u82 u83 u84 u85 u86 u87 u88 u89 : Value),
    a = { tmps := #[.agg #[.int .i64 (K.S : Nat), .int .i64 K.a, .int .i64 (K.C : Nat), .int .i64 (K.D : Nat), .int .i64 K.g, .int .i64 K.k], .slice (some ⟨b, off, none⟩) K.N cap, .int .u64 (e : Nat), .pointer (some ⟨bc, 0, none⟩), .pointer (some ⟨bw, 0, none⟩), .pointer (some ⟨be, 0, none⟩), .slice none 0 0, .pointer (some ⟨bm, 0, none⟩), .pointer (some ⟨bt, 0, none⟩), u9, u10, u11, u12, .func (.func 22) #[] #[.pointer (some ⟨bm, 0, none⟩), .pointer (some ⟨bw, 0, none⟩), .pointer (some ⟨bc, 0, none⟩), .pointer (some ⟨be, 0, none⟩), .pointer (some ⟨bt, 0, none⟩)], .slice ad q cp, u15, u16, u17, u18, u19, u20, u21, u22, u23, u24, u25, u26, u27, u28, u29, u30, u31, u32, u33, u34, u35, u36, u37, u38, u39, u40, u41, u42, u43, u44, u45, u46, u47, u48, u49, u50, u51, u52, u53, u54, u55, u56, u57, u58, u59, u60, u61, u62, u63, u64, u65, u66, u67, u68, u69, u70, u71, u72, u73, u74, u75, u76, u77, u78, u79, u80, u81, u82, u83, u84, u85, u86, u87, u88, u89], defers := [] } ∧ (Pi (gp K X e) F W M ∧ unB M K.S + W.length = n ∧ n ≤ 128) ∧ Fv w wr K bc bw be R bm bt b off cap e vt vt (zs W) M (.slice ad q cp) F
theorem FJ.mk {w : World} {K : Cf} {X : List Nat} {b off cap e n : Nat} {wr : World} {bc bw be R bm bt : Nat} {W : List Nat} {M : Nat → Bool} {vt : Value} {F : List Int} {ad : Option Addr} {q cp : Nat} {u9 u10 u11 u12 u15 u16 u17 u18 u19 u20 u21 u22 u23 u24 u25 u26 u27 u28 u29 u30 u31 u32 u33 u34 u35 u36 u37 u38 u39 u40 u41 u42 u43 u44 u45 u46 u47 u48 u49 u50 u51 u52 u53 u54 u55 u56 u57 u58 u59 u60 u61 u62 u63 u64 u65 u66 u67 u68 u69 u70 u71 u72 u73 u74 u75 u76 u77 u78 u79 u80 u81 u82 u83 u84 u85 u86 u87 u88 u89 : Value}
    (h1 : Pi (gp K X e) F W M) (h2 : unB M K.S + W.length = n) (h3 : n ≤ 128) (h4 : Fv w wr K bc bw be R bm bt b off cap e vt vt (zs W) M (.slice ad q cp) F) : FJ w K X b off cap e n { tmps := #[.agg #[.int .i64 (K.S : Nat), .int .i64 K.a, .int .i64 (K.C : Nat), .int .i64 (K.D : Nat), .int .i64 K.g, .int .i64 K.k], .slice (some ⟨b, off, none⟩) K.N cap, .int .u64 (e : Nat), .pointer (some ⟨bc, 0, none⟩), .pointer (some ⟨bw, 0, none⟩), .pointer (some ⟨be, 0, none⟩), .slice none 0 0, .pointer (some ⟨bm, 0, none⟩), .pointer (some ⟨bt, 0, none⟩), u9, u10, u11, u12, .func (.func 22) #[] #[.pointer (some ⟨bm, 0, none⟩), .pointer (some ⟨bw, 0, none⟩), .pointer (some ⟨bc, 0, none⟩), .pointer (some ⟨be, 0, none⟩), .pointer (some ⟨bt, 0, none⟩)], .slice ad q cp, u15, u16, u17, u18, u19, u20, u21, u22, u23, u24, u25, u26, u27, u28, u29, u30, u31, u32, u33, u34, u35, u36, u37, u38, u39, u40, u41, u42, u43, u44, u45, u46, u47, u48, u49, u50, u51, u52, u53, u54, u55, u56, u57, u58, u59, u60, u61, u62, u63, u64, u65, u66, u67, u68, u69, u70, u71, u72, u73, u74, u75, u76, u77, u78, u79, u80, u81, u82, u83, u84, u85, u86, u87, u88, u89], defers := [] } wr :=
  ⟨bc, bw, be, R, bm, bt, W, M, vt, F, ad, q, cp, u9, u10, u11, u12, u15, u16, u17, u18, u19, u20, u21, u22, u23, u24, u25, u26, u27, u28, u29, u30, u31, u32, u33, u34, u35, u36, u37, u38, u39, u40, u41, u42, u43, u44, u45, u46, u47, u48, u49, u50, u51, u52, u53, u54, u55, u56, u57, u58, u59, u60, u61, u62, u63, u64, u65, u66, u67, u68, u69, u70, u71, u72, u73, u74, u75, u76, u77, u78, u79, u80, u81, u82, u83, u84, u85, u86, u87, u88, u89, rfl, ⟨h1, h2, h3⟩, h4⟩
theorem Fv.s24 {w wr : World} {K : Cf} {bc bw be R bm bt b off cap e g o m cp3 l t : Nat} {vf : Value} {W : List Nat} {Ff : List Int} {M : Nat → Bool} (h : Fv w wr K bc bw be R bm bt b off cap e (.slice (some ⟨g, o, none⟩) m cp3) (.slice (some ⟨g, o, none⟩) m cp3) (zs (W ++ [t])) M vf Ff) (hl : W.length = l) : wr.cell? ⟨bc, 0, none⟩ = some (.int .i64 (K.S : Nat)) ∧ wr.cell? ⟨bc, 1, none⟩ = some (.int .i64 K.a) ∧ wr.cell? ⟨bc, 2, none⟩ = some (.int .i64 (K.C : Nat)) ∧ wr.cell? ⟨bc, 3, none⟩ = some (.int .i64 (K.D : Nat)) ∧ wr.cell? ⟨bc, 4, none⟩ = some (.int .i64 K.g) ∧ wr.cell? ⟨bc, 5, none⟩ = some (.int .i64 K.k) ∧ wr.cell? ⟨bw, 0, none⟩ = some (.slice (some ⟨b, off, none⟩) K.N cap) ∧ wr.cell? ⟨bt, 0, none⟩ = some (.slice (some ⟨g, o, none⟩) m cp3) ∧ wr.cell? ⟨g, o + l, none⟩ = some (.int .i64 (t : Nat)) := by
  obtain ⟨h0, h1, h2, h3, h4, h5⟩ := h.cfg.cells
  refine ⟨h0, h1, h2, h3, h4, h5, h.w, h.l.1, ?_⟩
  have q := h.own.cell l (by rw [zs_len]; simp; omega)
  rw [← zs_snoc] at q
  have e1 : (zs W ++ [(t : Int)]).getD l 0 = (t : Int) := by
    rw [List.getD_eq_getElem?_getD, List.getElem?_append_right (by rw [zs_len]; omega), zs_len, hl]; simp
  rw [e1] at q
  exact q
set_option maxRecDepth 100000 in
set_option maxHeartbeats 16000000 in
theorem found_any {w : World} (hw : WT w) {K : Cf} (hK : K.Ok) (hB : 3 ≤ K.B) {b off cap e : Nat} {X : List Nat} (hR : RdW w b off X) (hX : X.length = K.N) (hlt : ∀ i, X.getD i 0 < 18446744073709551616) (he : e < 18446744073709551616) :
    Calls Tryz.prog 6 #[.agg K.cs, .slice (some ⟨b, off, none⟩) K.N cap, .int .u64 (e : Nat)] w fun r w' => ∃ R M, r = .returned (.slice (some ⟨R, 0, none⟩) K.S K.S) ∧ Pi (gp K X e) [] [] M ∧ w'.heap[R]? = some (.cells (bools K.S M) 4 (0, 0)) ∧ w.heap.size ≤ R ∧ Below w.heap.size w w' := by
  have hN := hK.N_b
  have h64 := hK.s64
  have c8 := right_any K.S K.a K.C K.D K.g K.k
  rw [hK.r] at c8
  have c49 := fun w => size_yes hK.r w
  have hsz : szI K.S K.a K.C K.D = (K.N : Int) := szI_nat K.C K.D K.S K.B K.a hK.b
  simp only [hsz] at c49
  clear hsz
  have hmk : ∀ wr, (Instr.makeSlice 29 (.int .i64 (K.S : Nat)) (.int .i64 (K.S : Nat))).run Tryz.prog wr = .ok (.slice (some ⟨wr.heap.size, 0, none⟩) K.S K.S) (wr.alloc (.cells (madeCells #[.bool false] K.S) 4)) := fun wr => run_make_row' 29 4 (.bool false) 1 (by kernel_rfl) Tryz.info4 rfl .i64 .i64 K.S (by omega) (by omega) wr
  have HN := hid1 (fun (n : Nat) (hn : n < K.S) => (⟨fun w => header_at hK hn rfl w, fun w hw => mmarked_any (hlt (K.hd n)) he w hw, fun w hw => blackened_any (hlt (K.hd n)) w hw, fun w' h => (hR.below h).2 (K.hd n) (by rw [hX]; exact K.hd_lt hn), K.hd_lt hn⟩ : _ ∧ _ ∧ _ ∧ (∀ w', Below w.heap.size w w' → w'.cell? ⟨b, off + K.hd n, none⟩ = some (.int .u64 (X.getD (K.hd n) 0 : Nat))) ∧ _))
  have HR := hid1 (fun (wq : World) (h : Below w.heap.size w wq) => roots_any (cap := cap) hK (hR.below h) hX hlt)
  replace hw := hid1 hw
  unfold cs at *
  unfold Cf.cs at *
  go_enter Tryz.func6, Tryz.ntmps6
  go_wp2
  refine scope_n 0 (FJ w K X b off cap e) rfl ?_ ?_
  · intro n a wr hJ
    clear hmk c8 c49 HN HR
    obtain ⟨bc, bw, be, R, bm, bt, W, M, vt, F, ad, q, cp, u9, u10, u11, u12, u15, u16, u17, u18, u19, u20, u21, u22, u23, u24, u25, u26, u27, u28, u29, u30, u31, u32, u33, u34, u35, u36, u37, u38, u39, u40, u41, u42, u43, u44, u45, u46, u47, u48, u49, u50, u51, u52, u53, u54, u55, u56, u57, u58, u59, u60, u61, u62, u63, u64, u65, u66, u67, u68, u69, u70, u71, u72, u73, u74, u75, u76, u77, u78, u79, u80, u81, u82, u83, u84, u85, u86, u87, u88, u89, rfl, hp, is⟩ := hJ
    have hq := is.fd.len.1
    replace hp := hid1 hp
    replace hq := hid1 hq
    have HF := hid1 (fun (wq : World) (v : Value) (Q : List Int) (M : Nat → Bool) (x : Int) (is : Fv w wq K bc bw be R bm bt b off cap e v v Q M (.slice ad q cp) F) (hx : -1 ≤ x ∧ x < K.S) (hF : Q.length < 900000) => find1 hw.out hK is hR hX hlt he hx hF)
    have HT := hid1 (fun (t : Nat) (ht : t < K.S) (wq : World) (h : Below w.heap.size w wq) => names_any (cap := cap) (hw.out.below h) hK hB (hR.below h) hX hlt ht)
    clear hR hX hlt hK
    go_upto_region 17 with fail
    go_loopw [65] (fun i wr => ∃ (j : Nat) (W : List Nat) (M : Nat → Bool) (vt : Value), j ≤ q ∧ i = .int .i64 j ∧ Hid (Pi (gp K X e) (F.drop j) W M ∧ unB M K.S + W.length = n ∧ n ≤ 128) ∧ Fv w wr K bc bw be R bm bt b off cap e vt vt (zs W) M (.slice ad q cp) F) (fun i _ => q - (intOf i).toNat)
    case atStart => exact ⟨0, W, M, vt, Nat.zero_le _, rfl, hp, is⟩
    case round =>
      clear is hp
      obtain ⟨j, W, M, vt, hj, rfl, hp, is⟩ := hrel
      by_cases hl : j < q
      · have hl1 : (j : Int) < (q : Int) := by omega
        have hl0 : (0 : Int) ≤ (j : Int) := by omega
        have hjF : j < F.length := by rw [← hq.out]; exact hl
        obtain ⟨g, o, rfl⟩ : ∃ g o, ad = some ⟨g, o, none⟩ := by
          obtain ⟨ad', cp', h1, _, h2⟩ := is.fd.form
          simp only [Value.slice.injEq] at h1
          obtain ⟨g, o, h3⟩ := h2 (by intro h; rw [h] at hjF; simp at hjF)
          exact ⟨g, o, h1.1.trans h3⟩
        have xj := is.fd.cell j hjF
        have hd : F.drop j = F.getD j 0 :: F.drop (j + 1) := by rw [List.drop_eq_getElem_cons hjF]; simp [hjF]
        have hp1 := hp.out.1
        rw [hd] at hp1
        have hx := hp1.fr _ (List.mem_cons_self ..)
        obtain ⟨W', M', hf, hp2, hu⟩ := fnX_pi hp1
        have hWl : (zs W).length < 900000 := by rw [zs_len]; have := hp.out.2; omega
        have cc := HF.out _ _ _ _ _ is hx hWl
        rw [hf] at cc
        replace hp2 : Hid (Pi (gp K X e) (F.drop (j + 1)) W' M' ∧ unB M' K.S + W'.length = n ∧ n ≤ 128) := hid1 ⟨hp2, by have := hp.out.2; omega, hp.out.2.2⟩
        have e3 : IntKind.i64.wrap ((j : Int) + 1) = ((j + 1 : Nat) : Int) := by have := is.fd.len; rw [IntKind.wrap_i64]; unfold maxLen at this; omega
        generalize hj2 : j + 1 = j2 at *
        replace hf := hid1 hf
        replace hu := hid1 hu
        replace hd := hid1 hd
        replace hp1 := hid1 hp1
        clear hx hf hu hd hp1 hjF hWl hp
        generalize F.getD j 0 = x at *
        replace is := hid1 is
        simp only [] at cc
        go_wp2_with (go_at_call 22; with_reducible refine cc.mono ?_; rintro r w5 ⟨rfl, v', is'⟩)
        go_roundw
        case rel => exact ⟨j2, W', M', v', by omega, rfl, hp2, is'⟩
        case measure => simp [intOf]; omega
      · obtain rfl : j = q := by omega
        have hl1 : ¬ (j : Int) < (j : Int) := by omega
        obtain ⟨hp0, hn, h128⟩ := hp.out
        rw [hq.out, List.drop_length] at hp0
        clear hp HF
        rcases List.eq_nil_or_concat W with hW | ⟨W2, t, hW⟩
        · subst hW
          obtain ⟨ad3, cp3, hv3, _⟩ := is.own.form
          rw [show (zs ([] : List Nat)).length = 0 from rfl] at hv3
          subst hv3
          have l0 := is.l.1
          have m1 := is.m
          replace hp0 := hid1 hp0
          replace hn := hid1 hn
          clear HT
          go_wp2
          simp only [Exit.jump]
          go_ret
          exact ⟨R, M, rfl, hp0.out, is.row, is.nR, is.bel⟩
        · rw [List.concat_eq_append] at hW
          subst hW
          have ht := (hp0.wS t (by simp)).1
          have hp3 := hid1 (Pi.pop (G := gp K X e) hp0 (F' := nmL K X t) (fun _ => Iff.rfl) (nmL_b K X t))
          replace HT := hid1 (HT.out t ht)
          obtain ⟨Nm, hNm⟩ : ∃ Nm, nmL K X t = Nm := ⟨_, rfl⟩
          rw [hNm] at HT hp3
          clear hNm
          obtain ⟨ad3, cp3, hv3, hc3, hz3⟩ := is.own.form
          obtain ⟨g, o, rfl⟩ := hz3 (by rw [← zs_snoc]; simp)
          obtain ⟨m, hm⟩ : ∃ m, (zs (W2 ++ [t])).length = m := ⟨_, rfl⟩
          rw [hm] at hv3 hc3
          subst hv3
          obtain ⟨l, hll⟩ : ∃ l, W2.length = l := ⟨_, rfl⟩
          have hml : m = l + 1 := by rw [← hm, zs_len]; simp [hll]
          have hcap := is.own.len
          have e5 : IntKind.i64.wrap ((m : Int) - 1) = (l : Int) := by unfold maxLen at hcap; rw [IntKind.wrap_i64]; omega
          have e6 : ((m : Int) == 0) = false := by simp; omega
          have e7 : (l : Int) < (m : Int) := by omega
          have e8 : (0 : Int) ≤ (l : Int) := by omega
          have e9 : (l : Int) ≤ (cp3 : Int) := by omega
          have e10 : l ≤ cp3 := by omega
          have hn3 : unB M K.S + W2.length + 1 = n := by simp at hn; omega
          replace hn3 := hid1 hn3
          replace hll := hid1 hll
          have H24 := hid1 (fun (wq : World) (vf : Value) (Ff : List Int) (h : Fv w wq K bc bw be R bm bt b off cap e (.slice (some ⟨g, o, none⟩) m cp3) (.slice (some ⟨g, o, none⟩) m cp3) (zs (W2 ++ [t])) M vf Ff) => h.s24 hll.out)
          replace h128 := hid1 h128
          clear hp0 ht hc3 hm hml hcap hn hq
          have l0 := is.l.1
          go_upto_region 24 with fail
          clear l0
          replace is := is.below (Below.refl _ _).drew
          have hS0 := H24.out _ _ _ is
          refine wp_region_held_drew (S := fun wr => wr.cell? ⟨bc, 0, none⟩ = some (.int .i64 (K.S : Nat)) ∧ wr.cell? ⟨bc, 1, none⟩ = some (.int .i64 K.a) ∧ wr.cell? ⟨bc, 2, none⟩ = some (.int .i64 (K.C : Nat)) ∧ wr.cell? ⟨bc, 3, none⟩ = some (.int .i64 (K.D : Nat)) ∧ wr.cell? ⟨bc, 4, none⟩ = some (.int .i64 K.g) ∧ wr.cell? ⟨bc, 5, none⟩ = some (.int .i64 K.k) ∧ wr.cell? ⟨bw, 0, none⟩ = some (.slice (some ⟨b, off, none⟩) K.N cap) ∧ wr.cell? ⟨bt, 0, none⟩ = some (.slice (some ⟨g, o, none⟩) m cp3) ∧ wr.cell? ⟨g, o + l, none⟩ = some (.int .i64 (t : Nat))) (by kernel_rfl) hS0 (fun hS1 => ?_)
          clear hS0
          generalize World.drew _ = w4 at *
          refine wpAnyH_take (i := 0) (oi := { dst := some 80, op := Go.Op.load 23 (Go.Operand.tmp 3), type := 23, pos := "found.go:94", after := #[], guard := none }) (v := .agg #[.int .i64 (K.S : Nat), .int .i64 K.a, .int .i64 (K.C : Nat), .int .i64 (K.D : Nat), .int .i64 K.g, .int .i64 K.k]) rfl (by kernel_rfl) (by kernel_rfl) (by kernel_rfl) (fun _ _ _ h => h) (Or.inl ⟨by rfl, fun w hSw => by (try dsimp only at hSw); go_simp⟩) hS1 ?_
          simp only [Act.put, List.setIfInBounds_toArray, List.set_cons_zero, List.set_cons_succ]
          refine wpAnyH_take (i := 1) (oi := { dst := some 81, op := Go.Op.load 25 (Go.Operand.tmp 4), type := 25, pos := "found.go:94", after := #[], guard := none }) (v := .slice (some ⟨b, off, none⟩) K.N cap) rfl (by kernel_rfl) (by kernel_rfl) (by kernel_rfl) (fun _ _ _ h => h) (Or.inl ⟨by rfl, fun w hSw => by (try dsimp only at hSw); go_simp⟩) hS1 ?_
          simp only [Act.put, List.setIfInBounds_toArray, List.set_cons_zero, List.set_cons_succ]
          refine wpAnyH_take (i := 2) (oi := { dst := some 82, op := Go.Op.load 45 (Go.Operand.tmp 8), type := 45, pos := "found.go:94", after := #[], guard := none }) (v := .slice (some ⟨g, o, none⟩) m cp3) rfl (by kernel_rfl) (by kernel_rfl) (by kernel_rfl) (fun _ _ _ h => h) (Or.inl ⟨by rfl, fun w hSw => by (try dsimp only at hSw); go_simp⟩) hS1 ?_
          simp only [Act.put, List.setIfInBounds_toArray, List.set_cons_zero, List.set_cons_succ]
          refine wpAnyH_take (i := 3) (oi := { dst := some 83, op := Go.Op.move (Go.Operand.tmp 17), type := 3, pos := "found.go:94", after := #[], guard := none }) (v := .int .i64 (l : Nat)) rfl (by kernel_rfl) (by kernel_rfl) (by kernel_rfl) (fun _ _ _ h => h) (Or.inl ⟨by rfl, fun w hSw => by (try dsimp only at hSw); go_simp⟩) hS1 ?_
          simp only [Act.put, List.setIfInBounds_toArray, List.set_cons_zero, List.set_cons_succ]
          refine wpAnyH_take (i := 4) (oi := { dst := some 84, op := Go.Op.indexAddr 45 (Go.Operand.tmp 82) (Go.Operand.tmp 83), type := 0, pos := "found.go:94", after := #[{ on := 2, ground := Go.Ground.data }, { on := 3, ground := Go.Ground.data }], guard := none }) (v := .pointer (some ⟨g, o + l, none⟩)) rfl (by kernel_rfl) (by kernel_rfl) (by kernel_rfl) (fun _ _ _ h => h) (Or.inl ⟨by rfl, fun w hSw => by (try dsimp only at hSw); go_simp⟩) hS1 ?_
          simp only [Act.put, List.setIfInBounds_toArray, List.set_cons_zero, List.set_cons_succ]
          refine wpAnyH_take (i := 5) (oi := { dst := some 85, op := Go.Op.load 3 (Go.Operand.tmp 84), type := 3, pos := "found.go:94", after := #[{ on := 4, ground := Go.Ground.data }], guard := none }) (v := .int .i64 (t : Nat)) rfl (by kernel_rfl) (by kernel_rfl) (by kernel_rfl) (fun _ _ _ h => h) (Or.inl ⟨by rfl, fun w hSw => by (try dsimp only at hSw); go_simp⟩) hS1 ?_
          simp only [Act.put, List.setIfInBounds_toArray, List.set_cons_zero, List.set_cons_succ]
          refine wpAnyH_ready (rs := [6]) (by kernel_rfl) (by simp) (AllReadyH.cons (o := { dst := some 86, op := Go.Op.call { callee := Go.Callee.value (Go.Operand.func 25), args := #[Go.Operand.tmp 80, Go.Operand.tmp 81, Go.Operand.tmp 85], argTypes := #[23, 25, 3] }, type := 45, pos := "found.go:94", after := #[{ on := 0, ground := Go.Ground.data }, { on := 1, ground := Go.Ground.data }, { on := 5, ground := Go.Ground.data }], guard := none }) rfl (fun K hK => ?_) AllReadyH.nil)
          go_simp
          go_at_call 25
          with_reducible refine (HT.out _ is.bel).mono ?_
          rintro r w6 ⟨vf, rfl, hI, ho, b1⟩
          (try simp only [])
          replace is := is.newf b1 hI ho
          clear b1 hI ho
          obtain ⟨ad2, cp2, hv2, _⟩ := is.fd.form
          generalize Nm.length = q2 at hv2
          subst hv2
          refine hK.out _ _ (H24.out _ _ _ is) (fun hS1 => ?_)
          (try simp only [Act.put, List.setIfInBounds_toArray, List.set_cons_zero, List.set_cons_succ])
          clear hK K
          refine wpAnyH_take (i := 7) (oi := { dst := some 14, op := Go.Op.assign (Go.Operand.tmp 86), type := 45, pos := "found.go:94", after := #[{ on := 6, ground := Go.Ground.data }, { on := 6, ground := Go.Ground.chain }, { on := 0, ground := Go.Ground.phase }, { on := 1, ground := Go.Ground.phase }, { on := 2, ground := Go.Ground.phase }, { on := 3, ground := Go.Ground.phase }, { on := 4, ground := Go.Ground.phase }, { on := 5, ground := Go.Ground.phase }, { on := 6, ground := Go.Ground.phase }], guard := none }) (v := .slice ad2 q2 cp2) rfl (by kernel_rfl) (by kernel_rfl) (by kernel_rfl) (fun _ _ _ h => h) (Or.inl ⟨by rfl, fun w hSw => by (try dsimp only at hSw); go_simp⟩) hS1 ?_
          simp only [Act.put, List.setIfInBounds_toArray, List.set_cons_zero, List.set_cons_succ]
          refine wpAnyH_done (by kernel_rfl) ?_ _
          clear hS1

          have l0 := is.l.1
          have f0 := is.l.2
          go_wp2
          rw [← zs_snoc] at is
          replace is := is.cut
          rw [zs_len, hll.out] at is
          replace is := is.put
          go_step3
          exact And.intro rfl (Exists.intro (unB M K.S + W2.length) (And.intro (by have := hn3.out; omega) (FJ.mk hp3.out rfl (by have := hn3.out; have := h128.out; omega) is)))
  · intro HP
    replace HP := hid1 HP
    have fw := Fw.start w K b off cap e
    go_upto_region 1 with fail
    generalize World.alloc _ _ = w0 at *
    generalize hbe : w.heap.size + 1 + 1 = be at *
    generalize hbw : w.heap.size + 1 = bw at *
    clear hbe hbw
    generalize hbc : w.heap.size = bc at fw ⊢
    replace hbc := hid1 hbc
    replace fw := fw.below (Below.refl _ _).drew
    go_region_held (fun wr => wr.cell? ⟨bc, 0, none⟩ = some (.int .i64 (K.S : Nat)) ∧ wr.cell? ⟨bc, 1, none⟩ = some (.int .i64 K.a) ∧ wr.cell? ⟨bc, 2, none⟩ = some (.int .i64 (K.C : Nat)) ∧ wr.cell? ⟨bc, 3, none⟩ = some (.int .i64 (K.D : Nat)) ∧ wr.cell? ⟨bc, 4, none⟩ = some (.int .i64 K.g) ∧ wr.cell? ⟨bc, 5, none⟩ = some (.int .i64 K.k) ∧ wr.cell? ⟨bw, 0, none⟩ = some (.slice (some ⟨b, off, none⟩) K.N cap)) (with_reducible exact fw.two) (first
      | (go_at_call 17; with_reducible refine (c8 _).mono ?_; rintro r w1 ⟨rfl, b1⟩; replace fw := fw.below b1; clear b1)
      | (go_at_call 18; with_reducible refine (c49 _).mono ?_; rintro r w2 ⟨rfl, b1⟩; replace fw := fw.below b1; clear b1))
    have x0 := fw.two.1
    clear c8 c49
    go_upto_region 5 with fail
    clear x0
    have is := fw.made
    generalize World.alloc _ _ = w3 at *
    have x0 := is.cfg.cells.1
    go_upto_region 6 with fail
    clear x0 hmk
    generalize hRR : w2.heap.size + 1 + 1 = bt at *
    generalize hRm : w2.heap.size + 1 = bm at *
    generalize hR0 : w2.heap.size = R at *
    clear hRR hRm hR0 fw
    go_loopw [33] (fun i wr => ∃ (n : Nat) (vt : Value), n ≤ K.S ∧ i = .int .i64 n ∧ Fv w wr K bc bw be R bm bt b off cap e vt vt (zs (gl K X n)) (m0n K X e n) (.slice none 0 0) []) (fun i _ => K.S - (intOf i).toNat)
    case atStart => exact ⟨0, _, Nat.zero_le _, rfl, by rw [m0n_zero]; exact is⟩
    case round =>
      clear is
      obtain ⟨n1, vt, hn, rfl, is⟩ := hrel
      by_cases hl : n1 < K.S
      · have hl1 : (n1 : Int) < (K.S : Int) := by omega
        have hl0 : (0 : Int) ≤ (n1 : Int) := by omega
        obtain ⟨c43, c50, c51, hRL, hL⟩ := HN.out n1 hl
        have hm := hid1 (m0n_succ K X e n1)
        have hgy := hid1 (fun (h : grayW (X.getD (K.hd n1) 0) = true) => gl_yes h)
        have hgn := hid1 (fun (h : grayW (X.getD (K.hd n1) 0) = false) => gl_no h)
        have hlen : (zs (gl K X n1)).length + [(n1 : Int)].length ≤ 1000000 := by
          have := gl_len K X n1
          rw [zs_len]; simp; omega
        replace hlen := hid1 hlen
        have e3 : IntKind.i64.wrap ((n1 : Int) + 1) = ((n1 + 1 : Nat) : Int) := by rw [IntKind.wrap_i64]; omega
        generalize hk2 : n1 + 1 = n2 at *
        have hL1 : ((K.hd n1 : Nat) : Int) < (K.N : Int) := by omega
        have hL0 : (0 : Int) ≤ ((K.hd n1 : Nat) : Int) := by omega
        clear hL
        generalize K.hd n1 = L at *
        generalize X.getD L 0 = W at *
        generalize mkdW W e = mk at *
        generalize grayW W = gr at *
        generalize bkW W = bk at *
        have HC := hid1 (fun (wq : World) (u v : Value) (F : List Int) (M : Nat → Bool) (vf : Value) (Ff : List Int) (h : Fv w wq K bc bw be R bm bt b off cap e u v F M vf Ff) => h.rd hRL)
        have HM := hid1 (fun (wq : World) (u v : Value) (F : List Int) (M : Nat → Bool) (vf : Value) (Ff : List Int) (h : Fv w wq K bc bw be R bm bt b off cap e u v F M vf Ff) => h.rdm hRL)
        clear hRL
        obtain ⟨ad, cp, hv, _⟩ := is.own.form
        generalize (zs (gl K X n1)).length = q at hv
        subst hv
        go_upto_region 8 with fail
        replace is := is.below (Below.refl _ _).drew
        have hS0 := HC.out _ _ _ _ _ _ _ is
        refine wp_region_held_drew (S := fun wr => wr.cell? ⟨bc, 0, none⟩ = some (.int .i64 (K.S : Nat)) ∧ wr.cell? ⟨bc, 1, none⟩ = some (.int .i64 K.a) ∧ wr.cell? ⟨bc, 2, none⟩ = some (.int .i64 (K.C : Nat)) ∧ wr.cell? ⟨bc, 3, none⟩ = some (.int .i64 (K.D : Nat)) ∧ wr.cell? ⟨bc, 4, none⟩ = some (.int .i64 K.g) ∧ wr.cell? ⟨bc, 5, none⟩ = some (.int .i64 K.k) ∧ wr.cell? ⟨bw, 0, none⟩ = some (.slice (some ⟨b, off, none⟩) K.N cap) ∧ wr.cell? ⟨be, 0, none⟩ = some (.int .u64 (e : Nat)) ∧ wr.cell? ⟨b, off + L, none⟩ = some (.int .u64 (W : Nat))) (by kernel_rfl) hS0 (fun hS1 => ?_)
        clear hS0
        generalize World.drew _ = w4 at *
        refine wpAnyH_take (i := 0) (oi := { dst := some 36, op := Go.Op.load 25 (Go.Operand.tmp 4), type := 25, pos := "found.go:70", after := #[], guard := none }) (v := .slice (some ⟨b, off, none⟩) K.N cap) rfl (by kernel_rfl) (by kernel_rfl) (by kernel_rfl) (fun _ _ _ h => h) (Or.inl ⟨by rfl, fun w hSw => by (try dsimp only at hSw); go_simp⟩) hS1 ?_
        simp only [Act.put, List.setIfInBounds_toArray, List.set_cons_zero, List.set_cons_succ]
        refine wpAnyH_take (i := 1) (oi := { dst := some 37, op := Go.Op.load 23 (Go.Operand.tmp 3), type := 23, pos := "found.go:70", after := #[], guard := none }) (v := .agg #[.int .i64 (K.S : Nat), .int .i64 K.a, .int .i64 (K.C : Nat), .int .i64 (K.D : Nat), .int .i64 K.g, .int .i64 K.k]) rfl (by kernel_rfl) (by kernel_rfl) (by kernel_rfl) (fun _ _ _ h => h) (Or.inl ⟨by rfl, fun w hSw => by (try dsimp only at hSw); go_simp⟩) hS1 ?_
        simp only [Act.put, List.setIfInBounds_toArray, List.set_cons_zero, List.set_cons_succ]
        refine wpAnyH_take (i := 2) (oi := { dst := some 38, op := Go.Op.move (Go.Operand.tmp 9), type := 3, pos := "found.go:70", after := #[], guard := none }) (v := .int .i64 (n1 : Nat)) rfl (by kernel_rfl) (by kernel_rfl) (by kernel_rfl) (fun _ _ _ h => h) (Or.inl ⟨by rfl, fun w hSw => by (try dsimp only at hSw); go_simp⟩) hS1 ?_
        simp only [Act.put, List.setIfInBounds_toArray, List.set_cons_zero, List.set_cons_succ]
        refine wpAnyH_ready (rs := [3]) (by kernel_rfl) (by simp) (AllReadyH.cons (o := { dst := some 39, op := Go.Op.call { callee := Go.Callee.value (Go.Operand.func 19), args := #[Go.Operand.tmp 37, Go.Operand.tmp 38], argTypes := #[23, 3] }, type := 3, pos := "found.go:70", after := #[{ on := 1, ground := Go.Ground.data }, { on := 2, ground := Go.Ground.data }], guard := none }) rfl (fun K hK => ?_) AllReadyH.nil)
        go_simp
        go_at_call 19
        with_reducible refine (c43 _).mono ?_
        rintro r w5 ⟨rfl, b1⟩
        (try simp only [])
        replace is := is.below b1
        clear b1
        refine hK.out _ _ (HC.out _ _ _ _ _ _ _ is) (fun hS1 => ?_)
        (try simp only [Act.put, List.setIfInBounds_toArray, List.set_cons_zero, List.set_cons_succ])
        clear hK K
        refine wpAnyH_take (i := 4) (oi := { dst := some 40, op := Go.Op.indexAddr 25 (Go.Operand.tmp 36) (Go.Operand.tmp 39), type := 0, pos := "found.go:70", after := #[{ on := 0, ground := Go.Ground.data }, { on := 3, ground := Go.Ground.data }], guard := none }) (v := .pointer (some ⟨b, off + L, none⟩)) rfl (by kernel_rfl) (by kernel_rfl) (by kernel_rfl) (fun _ _ _ h => h) (Or.inl ⟨by rfl, fun w hSw => by (try dsimp only at hSw); go_simp⟩) hS1 ?_
        simp only [Act.put, List.setIfInBounds_toArray, List.set_cons_zero, List.set_cons_succ]
        refine wpAnyH_take (i := 5) (oi := { dst := some 41, op := Go.Op.load 26 (Go.Operand.tmp 40), type := 26, pos := "found.go:70", after := #[{ on := 4, ground := Go.Ground.data }], guard := none }) (v := .int .u64 (W : Nat)) rfl (by kernel_rfl) (by kernel_rfl) (by kernel_rfl) (fun _ _ _ h => h) (Or.inl ⟨by rfl, fun w hSw => by (try dsimp only at hSw); go_simp⟩) hS1 ?_
        simp only [Act.put, List.setIfInBounds_toArray, List.set_cons_zero, List.set_cons_succ]
        refine wpAnyH_take (i := 6) (oi := { dst := some 10, op := Go.Op.assign (Go.Operand.tmp 41), type := 26, pos := "found.go:70", after := #[{ on := 5, ground := Go.Ground.data }, { on := 3, ground := Go.Ground.chain }, { on := 0, ground := Go.Ground.phase }, { on := 1, ground := Go.Ground.phase }, { on := 2, ground := Go.Ground.phase }, { on := 3, ground := Go.Ground.phase }, { on := 4, ground := Go.Ground.phase }, { on := 5, ground := Go.Ground.phase }], guard := none }) (v := .int .u64 (W : Nat)) rfl (by kernel_rfl) (by kernel_rfl) (by kernel_rfl) (fun _ _ _ h => h) (Or.inl ⟨by rfl, fun w hSw => by (try dsimp only at hSw); go_simp⟩) hS1 ?_
        simp only [Act.put, List.setIfInBounds_toArray, List.set_cons_zero, List.set_cons_succ]
        refine wpAnyH_done (by kernel_rfl) ?_ _
        clear hS1

        go_upto_region 9 with fail
        replace is := is.below (Below.refl _ _).drew
        have hS0 := HM.out _ _ _ _ _ _ _ is
        refine wp_region_held_drew (S := fun wr => wr.cell? ⟨bc, 0, none⟩ = some (.int .i64 (K.S : Nat)) ∧ wr.cell? ⟨bc, 1, none⟩ = some (.int .i64 K.a) ∧ wr.cell? ⟨bc, 2, none⟩ = some (.int .i64 (K.C : Nat)) ∧ wr.cell? ⟨bc, 3, none⟩ = some (.int .i64 (K.D : Nat)) ∧ wr.cell? ⟨bc, 4, none⟩ = some (.int .i64 K.g) ∧ wr.cell? ⟨bc, 5, none⟩ = some (.int .i64 K.k) ∧ wr.cell? ⟨bw, 0, none⟩ = some (.slice (some ⟨b, off, none⟩) K.N cap) ∧ wr.cell? ⟨be, 0, none⟩ = some (.int .u64 (e : Nat)) ∧ wr.cell? ⟨b, off + L, none⟩ = some (.int .u64 (W : Nat)) ∧ wr.cell? ⟨bm, 0, none⟩ = some (.slice (some ⟨R, 0, none⟩) K.S K.S)) (by kernel_rfl) hS0 (fun hS1 => ?_)
        clear hS0
        generalize World.drew _ = w4 at *
        refine wpAnyH_take (i := 0) (oi := { dst := some 42, op := Go.Op.load 29 (Go.Operand.tmp 7), type := 29, pos := "found.go:71", after := #[], guard := none }) (v := .slice (some ⟨R, 0, none⟩) K.S K.S) rfl (by kernel_rfl) (by kernel_rfl) (by kernel_rfl) (fun _ _ _ h => h) (Or.inl ⟨by rfl, fun w hSw => by (try dsimp only at hSw); go_simp⟩) hS1 ?_
        simp only [Act.put, List.setIfInBounds_toArray, List.set_cons_zero, List.set_cons_succ]
        refine wpAnyH_take (i := 1) (oi := { dst := some 43, op := Go.Op.move (Go.Operand.tmp 9), type := 3, pos := "found.go:71", after := #[], guard := none }) (v := .int .i64 (n1 : Nat)) rfl (by kernel_rfl) (by kernel_rfl) (by kernel_rfl) (fun _ _ _ h => h) (Or.inl ⟨by rfl, fun w hSw => by (try dsimp only at hSw); go_simp⟩) hS1 ?_
        simp only [Act.put, List.setIfInBounds_toArray, List.set_cons_zero, List.set_cons_succ]
        refine wpAnyH_take (i := 2) (oi := { dst := some 44, op := Go.Op.move (Go.Operand.tmp 10), type := 26, pos := "found.go:71", after := #[], guard := none }) (v := .int .u64 (W : Nat)) rfl (by kernel_rfl) (by kernel_rfl) (by kernel_rfl) (fun _ _ _ h => h) (Or.inl ⟨by rfl, fun w hSw => by (try dsimp only at hSw); go_simp⟩) hS1 ?_
        simp only [Act.put, List.setIfInBounds_toArray, List.set_cons_zero, List.set_cons_succ]
        refine wpAnyH_take (i := 3) (oi := { dst := some 45, op := Go.Op.load 26 (Go.Operand.tmp 5), type := 26, pos := "found.go:71", after := #[], guard := none }) (v := .int .u64 (e : Nat)) rfl (by kernel_rfl) (by kernel_rfl) (by kernel_rfl) (fun _ _ _ h => h) (Or.inl ⟨by rfl, fun w hSw => by (try dsimp only at hSw); go_simp⟩) hS1 ?_
        simp only [Act.put, List.setIfInBounds_toArray, List.set_cons_zero, List.set_cons_succ]
        refine wpAnyH_ready (rs := [4]) (by kernel_rfl) (by simp) (AllReadyH.cons (o := { dst := some 46, op := Go.Op.call { callee := Go.Callee.value (Go.Operand.func 20), args := #[Go.Operand.tmp 44, Go.Operand.tmp 45], argTypes := #[26, 26] }, type := 4, pos := "found.go:71", after := #[{ on := 2, ground := Go.Ground.data }, { on := 3, ground := Go.Ground.data }], guard := none }) rfl (fun K hK => ?_) AllReadyH.nil)
        go_simp
        go_at_call 20
        with_reducible refine (c50 _ (is.wt hw.out)).mono ?_
        rintro r w6 ⟨rfl, b1⟩
        (try simp only [])
        replace is := is.below b1
        clear b1
        refine hK.out _ _ (HM.out _ _ _ _ _ _ _ is) (fun hS1 => ?_)
        (try simp only [Act.put, List.setIfInBounds_toArray, List.set_cons_zero, List.set_cons_succ])
        clear hK K
        refine wpAnyH_take (i := 5) (oi := { dst := some 47, op := Go.Op.indexAddr 29 (Go.Operand.tmp 42) (Go.Operand.tmp 43), type := 0, pos := "found.go:71", after := #[{ on := 0, ground := Go.Ground.data }, { on := 1, ground := Go.Ground.data }, { on := 0, ground := Go.Ground.phase }, { on := 1, ground := Go.Ground.phase }, { on := 2, ground := Go.Ground.phase }, { on := 3, ground := Go.Ground.phase }, { on := 4, ground := Go.Ground.phase }], guard := none }) (v := .pointer (some ⟨R, n1, none⟩)) rfl (by kernel_rfl) (by kernel_rfl) (by kernel_rfl) (fun _ _ _ h => h) (Or.inl ⟨by rfl, fun w hSw => by (try dsimp only at hSw); go_simp⟩) hS1 ?_
        simp only [Act.put, List.setIfInBounds_toArray, List.set_cons_zero, List.set_cons_succ]
        refine wpAnyH_ready (rs := [6]) (by kernel_rfl) (by simp) (AllReadyH.cons (o := { dst := none, op := Go.Op.store 4 (Go.Operand.tmp 47) (Go.Operand.tmp 46), type := 0, pos := "found.go:71", after := #[{ on := 5, ground := Go.Ground.data }, { on := 4, ground := Go.Ground.data }, { on := 4, ground := Go.Ground.chain }, { on := 0, ground := Go.Ground.phase }, { on := 1, ground := Go.Ground.phase }, { on := 2, ground := Go.Ground.phase }, { on := 3, ground := Go.Ground.phase }, { on := 4, ground := Go.Ground.phase }], guard := none }) rfl (fun K hK => ?_) AllReadyH.nil)
        have m2 := (is.b hl rfl).1
        have m3 := (is.b hl rfl).2
        go_simp
        replace is := is.mark n1 mk
        refine hK.out _ _ (HM.out _ _ _ _ _ _ _ is) (fun hS1 => ?_)
        (try simp only [Act.put, List.setIfInBounds_toArray, List.set_cons_zero, List.set_cons_succ])
        clear hK K
        clear m2 m3
        refine wpAnyH_done (by kernel_rfl) ?_ _
        clear hS1
        generalize World.setCell _ _ _ = w7 at *

        rw [hm.out] at is
        clear HC HM c43 c50
        cases gr with
        | false =>
          rw [hgn.out rfl] at is
          clear hm hgy hgn
          go_wp2_with (go_at_call 21; with_reducible refine (c51 _ (is.wt hw.out)).mono ?_; rintro r w8 ⟨rfl, b1⟩; replace is := is.below b1; clear b1)
          go_roundw
          case rel => exact ⟨n2, _, by omega, rfl, is⟩
          case measure => simp [intOf]; omega
        | true =>
          replace hgy := hid1 (hgy.out rfl)
          clear hm hgn
          go_wp2_with (first
            | (go_at_call 21; with_reducible refine (c51 _ (is.wt hw.out)).mono ?_; rintro r w8 ⟨rfl, b1⟩; replace is := is.below b1; clear b1; have l0 := is.l.1)
            | (at_builtin; refine wpList_append_ints rfl _ _ rfl _ (zs (gl K X n1)) [(n1 : Int)] rfl (is.below (alloc_below _ (.cells #[.int .i64 (n1 : Int)] 3))).own ⟨_, 0, none⟩ 1 1 rfl rfl (by simp) (one_new _ _ _) hlen.out ?_; intro v' w9 hI hg hp; replace is := (is.below (alloc_below _ (.cells #[.int .i64 (n1 : Int)] 3))).grow hI hg hp; clear hI hg hp l0; rw [hgy.out] at is; obtain ⟨ad', cp', hv', _⟩ := is.own.form; generalize (zs (gl K X n2)).length = q' at hv'; subst hv'; have l0 := is.l.1; have f0 := is.l.2))
          replace is := is.put
          go_roundw
          case rel => exact ⟨n2, _, by omega, rfl, is⟩
          case measure => simp [intOf]; omega
      · obtain rfl : n1 = K.S := by omega
        have hl1 : ¬ (K.S : Int) < (K.S : Int) := by omega
        clear HN
        obtain ⟨x0, x1, x2, x3, x4, x5⟩ := is.cfg.cells
        have x6 : _ := is.w
        go_wp2_with (go_at_call 24; with_reducible refine (HR.out _ is.bel).mono ?_; rintro r w5 ⟨vf, rfl, hI, ho, b1⟩; replace is := is.newf b1 hI ho; clear b1 hI ho x0 x1 x2 x3 x4 x5 x6; obtain ⟨ad2, cp2, hv2, _⟩ := is.fd.form; generalize (rtL K X K.C).length = q2 at hv2; subst hv2)
        go_step3
        rename_i K0 hK0
        refine hK0 _ _ ?_
        have hst := found_start K X e
        exact HP.out _ _ _ (FJ.mk hst.1 rfl (by omega) is)
end Go.Proofs.YtcioomopgdhlmaaGreatDoor
