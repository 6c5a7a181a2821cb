/- How many slots are gray: package shade's count and the law's. -/
import Derived.Test.YtpfcpkkillklkaaDoorDStep
import Derived.Test.YtpfcpkkillklkaaDoorPRmem
namespace Go.Proofs.YtpfcpkkillklkaaDoor
open Go.RowKit
open Mm (IsMem MS touched Only)
open Hh (WT okW whiteH wordOf Hr blackN usedK)

/-- Words that are only read. -/
def RdW (w : World) (b off : Nat) (X : List Nat) : Prop := b < w.heap.size ∧ ∀ i, i < X.length → w.cell? ⟨b, off + i, none⟩ = some (.int .u64 (X.getD i 0 : Nat))
theorem RdW.below {w w' : World} {b off : Nat} {X : List Nat} (h : RdW w b off X) (k : Below w.heap.size w w') : RdW w' b off X :=
  ⟨Nat.lt_of_lt_of_le h.1 k.size, fun i hi => (k.cell (p := ⟨b, off + i, none⟩) h.1).trans (h.2 i hi)⟩
theorem RdW.of_words {w : World} {R : Nat} {X : List Nat} (h : Mm.IsWords w R X) : RdW w R 0 X := ⟨lt_of_block (show w.heap[R]? = _ from h), fun i hi => by rw [Nat.zero_add]; exact Mm.words_at h i hi⟩
theorem RdW.atW {w : World} {b off : Nat} {X : List Nat} (h : RdW w b off X) {i W : Nat} (hi : i < X.length) (hW : X.getD i 0 = W) : w.cell? ⟨b, off + i, none⟩ = some (.int .u64 (W : Nat)) := hW ▸ h.2 i hi

def grN (K : Cf) (X : List Nat) : Nat → Nat
  | 0 => 0
  | n + 1 => grN K X n + (if grayW (X.getD (K.hd n) 0) then 1 else 0)
theorem grN_le (K : Cf) (X : List Nat) : ∀ n, grN K X n ≤ n
  | 0 => Nat.le_refl _
  | n + 1 => by
    have := grN_le K X n
    show grN K X n + (if grayW (X.getD (K.hd n) 0) then 1 else 0) ≤ n + 1
    split <;> omega

theorem gray_word {K M : Nat} (g : Bool) {A N S : Nat} (h : Hr K M A N S) : (okW (wordOf K M g.toNat A N S) && g) = grayW (wordOf K M g.toNat A N S) := by
  obtain ⟨_, _, p2, _⟩ := Hh.word_parts g h
  unfold grayW
  rw [p2]
  cases g <;> rfl
theorem un_any {W : Nat} (hW : W < 18446744073709551616) (w : World) (hw : WT w) :
    Calls Tryd.prog 41 #[.int .u64 (W : Nat)] w fun r w' => (∃ (k m : Int) (g : Bool) (a n s : Int), r = .returned (.tuple #[.agg #[.int .i64 k, .int .i64 m, .bool g, .int .i64 a, .int .i64 n, .int .i64 s], .bool (okW W)]) ∧ (okW W && g) = grayW W) ∧ Below w.heap.size w w' := by
  cases hok : okW W
  · exact (Hh.unpack_bad hW hok w hw).mono fun r w' ⟨hr, hb⟩ => ⟨⟨_, _, _, _, _, _, hr, by unfold grayW; rw [hok]; rfl⟩, hb⟩
  · obtain ⟨K, M, g, A, N, S, h1, rfl⟩ := Hh.okW_parts hW hok
    exact (Hh.unpack_word g h1 w hw).mono fun r w' ⟨hr, hb⟩ => ⟨⟨_, _, g, _, _, _, hr, by rw [← hok]; exact gray_word g h1⟩, hb⟩
theorem run_any {W : Nat} (hW : W < 18446744073709551616) (w : World) :
    Calls Tryd.prog 13 #[.int .u64 (W : Nat)] w fun r w' => (∃ (k m : Int) (g : Bool) (a n s : Int), r = .returned (.tuple #[.agg #[.int .i64 k, .int .i64 m, .bool g, .int .i64 a, .int .i64 n, .int .i64 s], .bool (okW W)]) ∧ (okW W && g) = grayW W) ∧ Below w.heap.size w w' := by
  cases hok : okW W
  · exact (Hh.runpack_bad hW hok w).mono fun r w' ⟨hr, hb⟩ => ⟨⟨_, _, _, _, _, _, hr, by unfold grayW; rw [hok]; rfl⟩, hb⟩
  · obtain ⟨K, M, g, A, N, S, h1, rfl⟩ := Hh.okW_parts hW hok
    exact (Hh.runpack_word g h1 w).mono fun r w' ⟨hr, hb⟩ => ⟨⟨_, _, g, _, _, _, hr, by rw [← hok]; exact gray_word g h1⟩, hb⟩

/-- Where the reference has a slot's header. -/
theorem rheader_any {K : Cf} (hK : K.Ok) (s : Nat) (hs : s < K.S) (w : World) :
    Calls Tryd.prog 12 #[.agg K.cs, .agg #[.string ⟨#[104, 101, 97, 100, 101, 114]⟩, .int .i64 (s : Nat), .int .i64 0]] w fun e w' => e = .returned (.int .i64 (K.hd s : Nat)) ∧ Below w.heap.size w w' :=
  at_yes hK.r hK.b hK.b8 8 s 0 (K.hd s) (by omega) (K.hd_lt hs) (wat_header K.C K.D K.B s) w

/-- What is known of the world while slots are counted. -/
structure Gr (w wr : World) (K : Cf) (b off : Nat) (X : List Nat) : Prop where
  rd : RdW wr b off X
  cfg : IsCfg wr w.heap.size K.S K.a K.C K.D K.g K.k
  bel : Below w.heap.size w wr
  wt : WT wr
theorem Gr.below {w wr w' : World} {K : Cf} {b off : Nat} {X : List Nat} (h : Gr w wr K b off X) (k : Below wr.heap.size wr w') : Gr w w' K b off X := ⟨h.rd.below k, h.cfg.below k, seq_below h.bel k, h.wt.below k⟩

set_option maxHeartbeats 4000000 in
theorem sgrays_any {K : Cf} (hK : K.Ok) {b off cap : Nat} {X : List Nat} (hX : X.length = K.N) (hlt : ∀ i, X.getD i 0 < 18446744073709551616) {w : World} (hr : RdW w b off X) (hw : WT w) :
    Calls Tryd.prog 24 #[.agg K.cs, .slice (some ⟨b, off, none⟩) K.N cap] w fun e w' => e = .returned (.int .i64 ((grN K X K.S : Nat) : Int)) ∧ Below w.heap.size w w' := by
  have c1 := right_any K.S K.a K.C K.D K.g K.k
  rw [hK.r] at c1
  have c2 := size_yes (s := K.S) (a := K.a) (c := K.C) (d := K.D) (g := K.g) (k := K.k) hK.r
  rw [szI_nat K.C K.D K.S K.B K.a hK.b] at c2
  rw [show nW K.C K.D K.B K.S = K.N from rfl] at c2
  have hN := hK.N_b
  have hS := hK.s64
  have bel := alloc_below w (.cells #[.int .i64 (K.S : Nat), .int .i64 K.a, .int .i64 (K.C : Nat), .int .i64 (K.D : Nat), .int .i64 K.g, .int .i64 K.k] 23)
  have is : Gr w _ K b off X := ⟨hr.below bel, cfg_new w K.S K.a K.C K.D K.g K.k, bel, hw.below bel⟩
  clear bel hr hw
  go_enter Tryd.func24, Tryd.ntmps24
  go_upto_region 1 with fail
  generalize w.alloc (.cells #[.int .i64 (K.S : Nat), .int .i64 K.a, .int .i64 (K.C : Nat), .int .i64 (K.D : Nat), .int .i64 K.g, .int .i64 K.k] 23) = w0 at *
  obtain ⟨l0, l1, l2, l3, l4, l5⟩ := is.cfg.cells
  go_upto_region 4 with (first
    | (go_at_call 32; with_reducible refine (c1 _).mono ?_; rintro e w1 ⟨rfl, hb⟩; replace is := is.below hb; clear l0 l1 l2 l3 l4 l5; obtain ⟨l0, l1, l2, l3, l4, l5⟩ := is.cfg.cells)
    | (go_at_call 33; with_reducible refine (c2 _).mono ?_; rintro e w2 ⟨rfl, hb⟩; replace is := is.below hb; clear l0 l1 l2 l3 l4 l5; obtain ⟨l0, l1, l2, l3, l4, l5⟩ := is.cfg.cells))
  clear c1 c2
  go_wp2
  go_loopw [5, 21] (fun v i wr => ∃ n : Nat, n ≤ K.S ∧ i = .int .i64 n ∧ v = .int .i64 ((grN K X n : Nat) : Int) ∧ Gr w wr K b off X) (fun _ i _ => K.S - (intOf i).toNat)
  case atStart => exact ⟨0, Nat.zero_le _, rfl, rfl, is⟩
  case round =>
    clear is l0 l1 l2 l3 l4 l5
    obtain ⟨n, hn, rfl, rfl, is⟩ := hrel
    obtain ⟨l0, l1, l2, l3, l4, l5⟩ := is.cfg.cells
    by_cases hnS : n < K.S
    · have c3 := header_any hK n hnS
      have c4 := un_any (hlt (K.hd n))
      have hh := K.hd_lt hnS
      have hhX : K.hd n < X.length := by omega
      have hg := grN_le K X n
      have hst : grN K X (n + 1) = grN K X n + (if grayW (X.getD (K.hd n) 0) then 1 else 0) := rfl
      replace hst : Hid (grN K X (n + 1) = grN K X n + (if grayW (X.getD (K.hd n) 0) then 1 else 0)) := hst
      obtain ⟨W, hXW⟩ : ∃ W, X.getD (K.hd n) 0 = W := ⟨_, rfl⟩
      rw [hXW] at c4 hst
      have q := is.rd.atW hhX hXW
      have hW := hlt (K.hd n)
      rw [hXW] at hW
      generalize grN K X n = G at *
      have hG : (G : Int) ≤ 64 := by omega
      cases hok : okW W
      · rw [hok] at c4
        go_wp2_with (first
          | (go_at_call 22; with_reducible refine (c3 _).mono ?_; rintro e w1 ⟨rfl, hb⟩; replace is := is.below hb; clear l0 l1 l2 l3 l4 l5 q; obtain ⟨l0, l1, l2, l3, l4, l5⟩ := is.cfg.cells; have q := is.rd.atW hhX hXW)
          | (go_at_call 41; with_reducible refine (c4 _ is.wt).mono ?_; rintro e w2 ⟨⟨k, m, g, a, nn, s, rfl, hgr⟩, hb⟩; replace is := is.below hb; clear l0 l1 l2 l3 l4 l5 q))
        go_roundw
        case rel => exact ⟨n + 1, by omega, by go_num, by rw [hst.out, ← hgr]; rfl, is.below (alloc_below _ _)⟩
        case measure => simp [intOf]; omega
      · rw [hok] at c4
        go_upto_region 8 with (first
          | (go_at_call 22; with_reducible refine (c3 _).mono ?_; rintro e w1 ⟨rfl, hb⟩; replace is := is.below hb; clear l0 l1 l2 l3 l4 l5 q; obtain ⟨l0, l1, l2, l3, l4, l5⟩ := is.cfg.cells; have q := is.rd.atW hhX hXW)
          | (go_at_call 41; with_reducible refine (c4 _ is.wt).mono ?_; rintro e w2 ⟨⟨k, m, g, a, nn, s, rfl, hgr⟩, hb⟩; replace is := is.below hb; clear l0 l1 l2 l3 l4 l5 q))
        rw [Bool.true_and] at hgr
        replace hgr : Hid (g = grayW W) := hgr
        replace is := is.below (alloc_below _ (.cells #[.int .i64 k, .int .i64 m, .bool g, .int .i64 a, .int .i64 nn, .int .i64 s] 46))
        cases g
        · go_wp2
          go_roundw
          case rel => exact ⟨n + 1, by omega, by go_num, by rw [hst.out, ← hgr.out]; rfl, is⟩
          case measure => simp [intOf]; omega
        · go_wp2
          go_roundw
          case rel => exact ⟨n + 1, by omega, by go_num, by rw [hst.out, ← hgr.out]; go_num, is⟩
          case measure => simp [intOf]; omega
    · have hnn : n = K.S := by omega
      subst hnn
      go_wp2
      go_ret
      exact ⟨rfl, is.bel⟩

set_option maxHeartbeats 4000000 in
theorem lgrays_any {K : Cf} (hK : K.Ok) {b off cap : Nat} {X : List Nat} (hX : X.length = K.N) (hlt : ∀ i, X.getD i 0 < 18446744073709551616) {w : World} (hr : RdW w b off X) (hw : WT w) :
    Calls Tryd.prog 11 #[.agg K.cs, .slice (some ⟨b, off, none⟩) K.N cap] w fun e w' => e = .returned (.int .i64 ((grN K X K.S : Nat) : Int)) ∧ Below w.heap.size w w' := by
  have hN := hK.N_b
  have hS := hK.s64
  have bel := alloc_below w (.cells #[.int .i64 (K.S : Nat), .int .i64 K.a, .int .i64 (K.C : Nat), .int .i64 (K.D : Nat), .int .i64 K.g, .int .i64 K.k] 23)
  have is : Gr w _ K b off X := ⟨hr.below bel, cfg_new w K.S K.a K.C K.D K.g K.k, bel, hw.below bel⟩
  clear bel hr hw
  go_enter Tryd.func11, Tryd.ntmps11
  go_upto_region 1 with fail
  generalize w.alloc (.cells #[.int .i64 (K.S : Nat), .int .i64 K.a, .int .i64 (K.C : Nat), .int .i64 (K.D : Nat), .int .i64 K.g, .int .i64 K.k] 23) = w0 at *
  obtain ⟨l0, l1, l2, l3, l4, l5⟩ := is.cfg.cells
  go_wp2
  go_loopw [5, 6] (fun v i wr => ∃ n : Nat, n ≤ K.S ∧ i = .int .i64 n ∧ v = .int .i64 ((grN K X n : Nat) : Int) ∧ Gr w wr K b off X) (fun _ i _ => K.S - (intOf i).toNat)
  case atStart => exact ⟨0, Nat.zero_le _, rfl, rfl, is⟩
  case round =>
    clear is l0 l1 l2 l3 l4 l5
    obtain ⟨n, hn, rfl, rfl, is⟩ := hrel
    obtain ⟨l0, l1, l2, l3, l4, l5⟩ := is.cfg.cells
    by_cases hnS : n < K.S
    · have c3 := rheader_any hK n hnS
      have c4 := run_any (hlt (K.hd n))
      have hh := K.hd_lt hnS
      have hhX : K.hd n < X.length := by omega
      have hg := grN_le K X n
      have hst : grN K X (n + 1) = grN K X n + (if grayW (X.getD (K.hd n) 0) then 1 else 0) := rfl
      replace hst : Hid (grN K X (n + 1) = grN K X n + (if grayW (X.getD (K.hd n) 0) then 1 else 0)) := hst
      obtain ⟨W, hXW⟩ : ∃ W, X.getD (K.hd n) 0 = W := ⟨_, rfl⟩
      rw [hXW] at c4 hst
      have q := is.rd.atW hhX hXW
      have hW := hlt (K.hd n)
      rw [hXW] at hW
      generalize grN K X n = G at *
      have hG : (G : Int) ≤ 64 := by omega
      cases hok : okW W
      · rw [hok] at c4
        go_wp2_with (first
          | (go_at_call 12; with_reducible refine (c3 _).mono ?_; rintro e w1 ⟨rfl, hb⟩; replace is := is.below hb; clear l0 l1 l2 l3 l4 l5 q; obtain ⟨l0, l1, l2, l3, l4, l5⟩ := is.cfg.cells; have q := is.rd.atW hhX hXW)
          | (go_at_call 13; with_reducible refine (c4 _).mono ?_; rintro e w2 ⟨⟨k, m, g, a, nn, s, rfl, hgr⟩, hb⟩; replace is := is.below hb; clear l0 l1 l2 l3 l4 l5 q))
        go_roundw
        case rel => exact ⟨n + 1, by omega, by go_num, by rw [hst.out, ← hgr]; rfl, is.below (alloc_below _ _)⟩
        case measure => simp [intOf]; omega
      · rw [hok] at c4
        go_upto_region 6 with (first
          | (go_at_call 12; with_reducible refine (c3 _).mono ?_; rintro e w1 ⟨rfl, hb⟩; replace is := is.below hb; clear l0 l1 l2 l3 l4 l5 q; obtain ⟨l0, l1, l2, l3, l4, l5⟩ := is.cfg.cells; have q := is.rd.atW hhX hXW)
          | (go_at_call 13; with_reducible refine (c4 _).mono ?_; rintro e w2 ⟨⟨k, m, g, a, nn, s, rfl, hgr⟩, hb⟩; replace is := is.below hb; clear l0 l1 l2 l3 l4 l5 q))
        rw [Bool.true_and] at hgr
        replace hgr : Hid (g = grayW W) := hgr
        replace is := is.below (alloc_below _ (.cells #[.int .i64 k, .int .i64 m, .bool g, .int .i64 a, .int .i64 nn, .int .i64 s] 46))
        cases g
        · go_wp2
          go_roundw
          case rel => exact ⟨n + 1, by omega, by go_num, by rw [hst.out, ← hgr.out]; rfl, is⟩
          case measure => simp [intOf]; omega
        · go_wp2
          go_roundw
          case rel => exact ⟨n + 1, by omega, by go_num, by rw [hst.out, ← hgr.out]; go_num, is⟩
          case measure => simp [intOf]; omega
    · have hnn : n = K.S := by omega
      subst hnn
      go_wp2
      go_ret
      exact ⟨rfl, is.bel⟩
end Go.Proofs.YtpfcpkkillklkaaDoor
