/- The law of the free list of any words, walked. -/
import Derived.Test.YtcfallaekedmkaaSAwake
import Derived.Test.YtcfallaekedmkaaPRmem
namespace Go.Proofs.Ytcfallaekedmkaa
open Go.RowKit
open Mm (IsWords)

/-- A List's contract, from a world on. -/
def Lc (f : Nat) (w0 : World) (s a c d g k : Int) (v : Value) (xs : List Nat) : Prop :=
  ∀ w', Below w0.heap.size w0 w' → Calls Try.prog f #[.agg (cs s a c d g k), v] w' fun e w'' => ∃ u, e = .returned u ∧ IsI w'' u xs ∧ Below w'.heap.size w' w''

set_option maxHeartbeats 2000000 in
theorem lists_same {s a c d g k : Int} {ad : Option Addr} {n cap : Nat} {ft : Bool} {xs : List Nat} (w : World) (hn : n ≤ 700)
    (HS : Lc 19 w s a c d g k (.slice ad n cap) xs) (HR : Lc 13 w s a c d g k (.slice ad n cap) xs) (hxs : xs.length ≤ 65536) (hf : ft = false ∨ rightB s a c d g k = false ∨ 20 < s) :
    Calls Try.prog 4 #[.agg (cs s a c d g k), .slice ad n cap, .bool ft] w fun e w' => e = .returned (.bool true) ∧ Below w.heap.size w w' := by
  unfold Lc at HS HR
  have c3 := rright_any s a c d g k
  have c4 := awake_any
  have bel := alloc_below w (.cells #[.int .i64 s, .int .i64 a, .int .i64 c, .int .i64 d, .int .i64 g, .int .i64 k] 23)
  have hh := cfg_new w s a c d g k
  cases ft
  · clear hf c3
    go_enter Try.func4, Try.ntmps4
    go_upto_region 1 with fail
    generalize w.alloc (.cells #[.int .i64 s, .int .i64 a, .int .i64 c, .int .i64 d, .int .i64 g, .int .i64 k] 23) = w0 at *
    obtain ⟨l0, l1, l2, l3, l4, l5⟩ := hh.cells
    go_upto_region 10 with fail
    replace hh := hh.below (Below.refl w0.heap.size w0).drew
    replace bel := bel.drew
    have bx := bel
    clear l0 l1 l2 l3 l4 l5
    go_region_held (fun wr => wr.cell? ⟨w.heap.size, 0, none⟩ = some (.int .i64 s) ∧ wr.cell? ⟨w.heap.size, 1, none⟩ = some (.int .i64 a) ∧ wr.cell? ⟨w.heap.size, 2, none⟩ = some (.int .i64 c) ∧ wr.cell? ⟨w.heap.size, 3, none⟩ = some (.int .i64 d) ∧ wr.cell? ⟨w.heap.size, 4, none⟩ = some (.int .i64 g) ∧ wr.cell? ⟨w.heap.size, 5, none⟩ = some (.int .i64 k)) (with_reducible exact hh.cells) (first
      | (go_at_call 19; with_reducible refine (HS _ bx).mono ?_; rintro e w6 ⟨v1, rfl, i1, hb⟩; replace bel := seq_below bel hb; replace bx := seq_below bx hb; replace hh := hh.below hb)
      | (go_at_call 13; with_reducible refine (HR _ bx).mono ?_; rintro e w6 ⟨v2, rfl, i2, hb⟩; replace bel := seq_below bel hb; replace bx := seq_below bx hb; replace hh := hh.below hb; replace i1 := i1.below hb)
      | (go_at_call 18; with_reducible refine (same_yes i1 i2 hxs).mono ?_; rintro e w6 ⟨rfl, hb⟩; replace bel := seq_below bel hb; replace hh := hh.below hb)
      | (go_at_call 11; with_reducible refine (c4 _).mono ?_; rintro e w6 ⟨rfl, hb⟩; replace bel := seq_below bel hb; replace hh := hh.below hb))
    all_goals
      go_wp2
      go_ret
      exact ⟨rfl, bel⟩
  · cases hr : rightB s a c d g k
    · rw [hr] at c3
      clear hf hr
      go_enter Try.func4, Try.ntmps4
      go_upto_region 1 with fail
      generalize w.alloc (.cells #[.int .i64 s, .int .i64 a, .int .i64 c, .int .i64 d, .int .i64 g, .int .i64 k] 23) = w0 at *
      obtain ⟨l0, l1, l2, l3, l4, l5⟩ := hh.cells
      go_upto_region 10 with (go_at_call 16; refine (c3 _).mono ?_; rintro e w5 ⟨rfl, hb⟩; replace bel := seq_below bel hb; replace hh := hh.below hb; clear l0 l1 l2 l3 l4 l5; obtain ⟨l0, l1, l2, l3, l4, l5⟩ := hh.cells)
      replace hh := hh.below (Below.refl w5.heap.size w5).drew
      replace bel := bel.drew
      have bx := bel
      clear l0 l1 l2 l3 l4 l5
      go_region_held (fun wr => wr.cell? ⟨w.heap.size, 0, none⟩ = some (.int .i64 s) ∧ wr.cell? ⟨w.heap.size, 1, none⟩ = some (.int .i64 a) ∧ wr.cell? ⟨w.heap.size, 2, none⟩ = some (.int .i64 c) ∧ wr.cell? ⟨w.heap.size, 3, none⟩ = some (.int .i64 d) ∧ wr.cell? ⟨w.heap.size, 4, none⟩ = some (.int .i64 g) ∧ wr.cell? ⟨w.heap.size, 5, none⟩ = some (.int .i64 k)) (with_reducible exact hh.cells) (first
        | (go_at_call 19; with_reducible refine (HS _ bx).mono ?_; rintro e w6 ⟨v1, rfl, i1, hb⟩; replace bel := seq_below bel hb; replace bx := seq_below bx hb; replace hh := hh.below hb)
        | (go_at_call 13; with_reducible refine (HR _ bx).mono ?_; rintro e w6 ⟨v2, rfl, i2, hb⟩; replace bel := seq_below bel hb; replace bx := seq_below bx hb; replace hh := hh.below hb; replace i1 := i1.below hb)
        | (go_at_call 18; with_reducible refine (same_yes i1 i2 hxs).mono ?_; rintro e w6 ⟨rfl, hb⟩; replace bel := seq_below bel hb; replace hh := hh.below hb)
        | (go_at_call 11; with_reducible refine (c4 _).mono ?_; rintro e w6 ⟨rfl, hb⟩; replace bel := seq_below bel hb; replace hh := hh.below hb))
      all_goals
        go_wp2
        go_ret
        exact ⟨rfl, bel⟩
    · rw [hr] at c3
      have hs : 20 < s := by
        rcases hf with h | h | h
        · cases h
        · rw [hr] at h; cases h
        · exact h
      clear hf hr
      go_enter Try.func4, Try.ntmps4
      go_upto_region 1 with fail
      generalize w.alloc (.cells #[.int .i64 s, .int .i64 a, .int .i64 c, .int .i64 d, .int .i64 g, .int .i64 k] 23) = w0 at *
      obtain ⟨l0, l1, l2, l3, l4, l5⟩ := hh.cells
      go_upto_region 10 with (go_at_call 16; refine (c3 _).mono ?_; rintro e w5 ⟨rfl, hb⟩; replace bel := seq_below bel hb; replace hh := hh.below hb; clear l0 l1 l2 l3 l4 l5; obtain ⟨l0, l1, l2, l3, l4, l5⟩ := hh.cells)
      replace hh := hh.below (Below.refl w5.heap.size w5).drew
      replace bel := bel.drew
      have bx := bel
      clear l0 l1 l2 l3 l4 l5
      go_region_held (fun wr => wr.cell? ⟨w.heap.size, 0, none⟩ = some (.int .i64 s) ∧ wr.cell? ⟨w.heap.size, 1, none⟩ = some (.int .i64 a) ∧ wr.cell? ⟨w.heap.size, 2, none⟩ = some (.int .i64 c) ∧ wr.cell? ⟨w.heap.size, 3, none⟩ = some (.int .i64 d) ∧ wr.cell? ⟨w.heap.size, 4, none⟩ = some (.int .i64 g) ∧ wr.cell? ⟨w.heap.size, 5, none⟩ = some (.int .i64 k)) (with_reducible exact hh.cells) (first
        | (go_at_call 19; with_reducible refine (HS _ bx).mono ?_; rintro e w6 ⟨v1, rfl, i1, hb⟩; replace bel := seq_below bel hb; replace bx := seq_below bx hb; replace hh := hh.below hb)
        | (go_at_call 13; with_reducible refine (HR _ bx).mono ?_; rintro e w6 ⟨v2, rfl, i2, hb⟩; replace bel := seq_below bel hb; replace bx := seq_below bx hb; replace hh := hh.below hb; replace i1 := i1.below hb)
        | (go_at_call 18; with_reducible refine (same_yes i1 i2 hxs).mono ?_; rintro e w6 ⟨rfl, hb⟩; replace bel := seq_below bel hb; replace hh := hh.below hb)
        | (go_at_call 11; with_reducible refine (c4 _).mono ?_; rintro e w6 ⟨rfl, hb⟩; replace bel := seq_below bel hb; replace hh := hh.below hb))
      all_goals
        go_wp2
        go_ret
        exact ⟨rfl, bel⟩

set_option maxHeartbeats 400000 in
theorem lists_long {s a c d g k : Int} {ad : Option Addr} {n cap : Nat} {ft : Bool} (w : World) (hn : 700 < n) :
    Calls Try.prog 4 #[.agg (cs s a c d g k), .slice ad n cap, .bool ft] w fun e w' => e = .returned (.bool true) ∧ Below w.heap.size w w' := by
  have c4 := awake_any
  have bel := alloc_below w (.cells #[.int .i64 s, .int .i64 a, .int .i64 c, .int .i64 d, .int .i64 g, .int .i64 k] 23)
  go_enter Try.func4, Try.ntmps4
  go_wp2_with (go_at_call 11; refine (c4 _).mono ?_; rintro e w5 ⟨rfl, hb⟩; replace bel := seq_below bel hb)
  go_ret
  exact ⟨rfl, bel⟩

/-- The first words of one list, the others of another one. -/
def mixW (X Y : List Nat) (j : Nat) : List Nat := X.take j ++ Y.drop j
theorem mixW_len (X Y : List Nat) (j : Nat) (h1 : j ≤ X.length) (h2 : j ≤ Y.length) : (mixW X Y j).length = Y.length := by simp [mixW]; omega
theorem mixW_set (X Y : List Nat) (j : Nat) (h1 : j < X.length) (h2 : j < Y.length) : (mixW X Y j).set j (X.getD j 0) = mixW X Y (j + 1) := by
  have e1 : (X.take j).length = j := by simp; omega
  unfold mixW
  rw [List.set_append_right _ _ (by omega), e1, Nat.sub_self, List.drop_eq_getElem_cons h2, List.set_cons_zero, List.take_succ_eq_append_getElem h1, List.append_assoc]
  simp [h1]
theorem mixW_lt (X Y : List Nat) (j B : Nat) (h1 : ∀ x ∈ X, x < B) (h2 : ∀ x ∈ Y, x < B) : ∀ x ∈ mixW X Y j, x < B := by
  intro x hx
  rcases List.mem_append.1 hx with h | h
  · exact h1 x (List.mem_of_mem_take h)
  · exact h2 x (List.mem_of_mem_drop h)
theorem getD_lt {X : List Nat} {B : Nat} (hB : 0 < B) (h : ∀ x ∈ X, x < B) (i : Nat) : X.getD i 0 < B := by
  by_cases hi : i < X.length
  · have e : X.getD i 0 = X[i] := by simp [hi]
    rw [e]; exact h _ (List.getElem_mem hi)
  · have e : X.getD i 0 = 0 := by simp [hi]
    rw [e]; exact hB

/-- The words of any slice that came in. -/
def Came (w : World) (ad : Option Addr) (X : List Nat) : Prop := ∀ i, i < X.length → ∃ b off, ad = some ⟨b, off, none⟩ ∧ b < w.heap.size ∧ w.cell? ⟨b, off + i, none⟩ = some (.int .u64 (X.getD i 0 : Nat))

set_option maxHeartbeats 4000000 in
theorem lists_fit {K : Cf} (hK : K.Ok) {ad : Option Addr} {cap : Nat} {X : List Nat} (w : World) (hn : X.length ≤ 700) (hs20 : K.S ≤ 20) (hC : Came w ad X) (hX : ∀ x ∈ X, x < 18446744073709551616) :
    Calls Try.prog 4 #[.agg K.cs, .slice ad X.length cap, .bool true] w fun e w' => e = .returned (.bool true) ∧ Below w.heap.size w w' := by
  have c3 := rright_any K.S K.a K.C K.D K.g K.k
  rw [hK.r] at c3
  have c5 := rmemory_any K.C K.D K.S K.B K.a K.g K.k hK.b hK.b8 hK.c8 hK.d16 hK.s64 hK.d1
  have hYl : (memX K.C K.D K.B (nW K.C K.D K.B K.S) (K.S - 1)).length = K.N := memX_len _ _ _ _ _
  have hYb := memX_lt K.C K.D K.B K.S (K.S - 1) hK.d1 hK.s64
  rw [show nW K.C K.D K.B K.S = K.N from rfl] at c5
  rw [show nW K.C K.D K.B K.S = K.N from rfl] at hYl hYb
  have hN := hK.N_b
  have cS : ∀ (R : Nat) (Z : List Nat) (wr : World), IsWords wr R Z → Z.length = K.N → (∀ x ∈ Z, x < 18446744073709551616) → Lc 19 wr K.S K.a K.C K.D K.g K.k (.slice (some ⟨R, 0, none⟩) K.N K.N) (lst K Z) :=
    fun R Z wr hw hl hz w' hb => (slist_yes hK (RdW.of_words (words_below hw hb)) hl (getD_lt (by omega) hz)).mono fun e w'' ⟨v, he, hI, _, b⟩ => ⟨v, he, hI, b⟩
  have cR : ∀ (R : Nat) (Z : List Nat) (wr : World), IsWords wr R Z → Z.length = K.N → (∀ x ∈ Z, x < 18446744073709551616) → Lc 13 wr K.S K.a K.C K.D K.g K.k (.slice (some ⟨R, 0, none⟩) K.N K.N) (lst K Z) :=
    fun R Z wr hw hl hz w' hb => (rlist_yes hK (RdW.of_words (words_below hw hb)) hl (getD_lt (by omega) hz)).mono fun e w'' ⟨v, he, hI, _, b⟩ => ⟨v, he, hI, b⟩
  have cX : ∀ Z, (lst K Z).length ≤ 65536 := fun Z => by have := lst_len K Z; have := hK.s64; omega
  generalize memX K.C K.D K.B K.N (K.S - 1) = Y at *
  unfold Came at hC
  have hset := mixW_set X Y
  have hlen := mixW_len X Y
  have hlt := mixW_lt X Y
  have hmix0 : mixW X Y 0 = Y := by simp [mixW]
  unfold Cf.cs
  generalize lst K = lK at *
  generalize K.N = M at *
  generalize X.length = n at *
  have hs : (K.S : Int) ≤ 20 := by omega
  generalize (K.S : Int) = s at *
  generalize K.a = a at *
  generalize (K.C : Int) = c at *
  generalize (K.D : Int) = d at *
  generalize K.g = g at *
  generalize K.k = k at *
  clear hK hs20
  have c4 := awake_any
  have bel := alloc_below w (.cells #[.int .i64 s, .int .i64 a, .int .i64 c, .int .i64 d, .int .i64 g, .int .i64 k] 23)
  have hh := cfg_new w s a c d g k
  go_enter Try.func4, Try.ntmps4
  go_upto_region 1 with fail
  generalize w.alloc (.cells #[.int .i64 s, .int .i64 a, .int .i64 c, .int .i64 d, .int .i64 g, .int .i64 k] 23) = w0 at *
  obtain ⟨l0, l1, l2, l3, l4, l5⟩ := hh.cells
  go_wp2_with (first
    | (go_at_call 16; refine (c3 _).mono ?_; rintro e w5 ⟨rfl, hb⟩; replace bel := seq_below bel hb; replace hh := hh.below hb; clear hb l0 l1 l2 l3 l4 l5; obtain ⟨l0, l1, l2, l3, l4, l5⟩ := hh.cells)
    | (go_at_call 17; refine (c5 _).mono ?_; rintro e w5 ⟨R, rfl, hw, hR, hb⟩; have hlt0 := hh.lt; replace bel := seq_below bel hb; replace hh := hh.below hb; clear hb l0 l1 l2 l3 l4 l5; obtain ⟨l0, l1, l2, l3, l4, l5⟩ := hh.cells))
  have hR1 : w.heap.size + 1 ≤ R := by omega
  clear hR hlt0 c3 c5
  go_loopw [8] (fun i wr => ∃ j : Nat, j ≤ n ∧ j ≤ M ∧ i = .int .i64 j ∧ IsWords wr R (mixW X Y j) ∧ IsCfg wr w.heap.size s a c d g k ∧ Below w.heap.size w wr) (fun i _ => n - (intOf i).toNat)
  case atStart => exact ⟨0, Nat.zero_le _, Nat.zero_le _, rfl, by rw [hmix0]; exact hw, hh, bel⟩
  case round =>
    clear hw hh bel l0 l1 l2 l3 l4 l5
    obtain ⟨j, hj, hjM, rfl, hw, hh, bel⟩ := hrel
    obtain ⟨l0, l1, l2, l3, l4, l5⟩ := hh.cells
    by_cases hjn : j < n
    · by_cases hjm : j < M
      · obtain ⟨b, off, rfl, hbl, q⟩ := hC j hjn
        replace q := (bel.cell (p := ⟨b, off + j, none⟩) hbl).trans q
        have hz := hset j (by omega) (by omega)
        have fz := words_free hw j
        obtain ⟨vj, qj⟩ := words_some hw j (by rw [hlen j (by omega) (by omega)]; omega)
        clear hset hlen hC hlt cS cR cX
        generalize X.getD j 0 = x at *
        go_wp2
        go_roundw
        case rel => exact ⟨j + 1, by omega, by omega, by go_num, hz ▸ words_stored hw j x _ rfl, cfg_stored hh (by omega : w.heap.size ≠ R) _, bel.setCell (p := ⟨R, j, none⟩) (by omega : w.heap.size ≤ R) _⟩
        case measure => simp [intOf]; omega
      · have hl' := hlen j (by omega) (by omega)
        have HS := cS R _ wr hw (by omega) (hlt j _ hX hYb)
        have HR := cR R _ wr hw (by omega) (hlt j _ hX hYb)
        have hxs := cX (mixW X Y j)
        generalize lK (mixW X Y j) = xs at *
        unfold Lc at HS HR
        clear hset hlen hC hlt cS cR cX hw hX hYb
        go_upto_region 10 with fail
        have bx := (Below.refl wr.heap.size wr).drew
        replace hh := hh.below (Below.refl wr.heap.size wr).drew
        replace bel := bel.drew
        clear l0 l1 l2 l3 l4 l5
        go_region_held (fun wr => wr.cell? ⟨w.heap.size, 0, none⟩ = some (.int .i64 s) ∧ wr.cell? ⟨w.heap.size, 1, none⟩ = some (.int .i64 a) ∧ wr.cell? ⟨w.heap.size, 2, none⟩ = some (.int .i64 c) ∧ wr.cell? ⟨w.heap.size, 3, none⟩ = some (.int .i64 d) ∧ wr.cell? ⟨w.heap.size, 4, none⟩ = some (.int .i64 g) ∧ wr.cell? ⟨w.heap.size, 5, none⟩ = some (.int .i64 k)) (with_reducible exact hh.cells) (first
          | (go_at_call 19; with_reducible refine (HS _ bx).mono ?_; rintro e w6 ⟨v1, rfl, i1, hb⟩; replace bel := seq_below bel hb; replace bx := seq_below bx hb; replace hh := hh.below hb)
          | (go_at_call 13; with_reducible refine (HR _ bx).mono ?_; rintro e w6 ⟨v2, rfl, i2, hb⟩; replace bel := seq_below bel hb; replace bx := seq_below bx hb; replace hh := hh.below hb; replace i1 := i1.below hb)
          | (go_at_call 18; with_reducible refine (same_yes i1 i2 hxs).mono ?_; rintro e w6 ⟨rfl, hb⟩; replace bel := seq_below bel hb; replace hh := hh.below hb)
          | (go_at_call 11; with_reducible refine (c4 _).mono ?_; rintro e w6 ⟨rfl, hb⟩; replace bel := seq_below bel hb; replace hh := hh.below hb))
        all_goals
          go_wp2
          go_ret
          exact ⟨rfl, bel⟩
    · have hl' := hlen j (by omega) (by omega)
      have HS := cS R _ wr hw (by omega) (hlt j _ hX hYb)
      have HR := cR R _ wr hw (by omega) (hlt j _ hX hYb)
      have hxs := cX (mixW X Y j)
      generalize lK (mixW X Y j) = xs at *
      unfold Lc at HS HR
      clear hset hlen hC hlt cS cR cX hw hX hYb
      go_upto_region 10 with fail
      have bx := (Below.refl wr.heap.size wr).drew
      replace hh := hh.below (Below.refl wr.heap.size wr).drew
      replace bel := bel.drew
      clear l0 l1 l2 l3 l4 l5
      go_region_held (fun wr => wr.cell? ⟨w.heap.size, 0, none⟩ = some (.int .i64 s) ∧ wr.cell? ⟨w.heap.size, 1, none⟩ = some (.int .i64 a) ∧ wr.cell? ⟨w.heap.size, 2, none⟩ = some (.int .i64 c) ∧ wr.cell? ⟨w.heap.size, 3, none⟩ = some (.int .i64 d) ∧ wr.cell? ⟨w.heap.size, 4, none⟩ = some (.int .i64 g) ∧ wr.cell? ⟨w.heap.size, 5, none⟩ = some (.int .i64 k)) (with_reducible exact hh.cells) (first
        | (go_at_call 19; with_reducible refine (HS _ bx).mono ?_; rintro e w6 ⟨v1, rfl, i1, hb⟩; replace bel := seq_below bel hb; replace bx := seq_below bx hb; replace hh := hh.below hb)
        | (go_at_call 13; with_reducible refine (HR _ bx).mono ?_; rintro e w6 ⟨v2, rfl, i2, hb⟩; replace bel := seq_below bel hb; replace bx := seq_below bx hb; replace hh := hh.below hb; replace i1 := i1.below hb)
        | (go_at_call 18; with_reducible refine (same_yes i1 i2 hxs).mono ?_; rintro e w6 ⟨rfl, hb⟩; replace bel := seq_below bel hb; replace hh := hh.below hb)
        | (go_at_call 11; with_reducible refine (c4 _).mono ?_; rintro e w6 ⟨rfl, hb⟩; replace bel := seq_below bel hb; replace hh := hh.below hb))
      all_goals
        go_wp2
        go_ret
        exact ⟨rfl, bel⟩

theorem lists_law (s a c d g k : Int) (ad : Option Addr) (cap : Nat) (X : List Nat) (ft : Bool) (w : World) (hC : Came w ad X) (hX : ∀ x ∈ X, x < 18446744073709551616) :
    Calls Try.prog 4 #[.agg (cs s a c d g k), .slice ad X.length cap, .bool ft] w fun e w' => e = .returned (.bool true) ∧ Below w.heap.size w w' := by
  by_cases hn : X.length ≤ 700
  · cases hr : rightB s a c d g k
    · exact lists_same (xs := []) w hn (fun w' _ => (slist_wrong hr _ _ _ w').mono fun e w'' ⟨he, hb⟩ => ⟨_, he, IsI.nil _, hb⟩) (fun w' _ => (rlist_wrong hr _ _ _ w').mono fun e w'' ⟨he, hb⟩ => ⟨_, he, IsI.nil _, hb⟩) (by simp) (.inr (.inl hr))
    · obtain ⟨K, hK, rfl, rfl, rfl, rfl, rfl, rfl⟩ := Cf.of_right hr
      by_cases hft : ft = true ∧ K.S ≤ 20
      · obtain ⟨rfl, h20⟩ := hft
        exact lists_fit hK w hn h20 hC hX
      · have hf : ft = false ∨ rightB K.S K.a K.C K.D K.g K.k = false ∨ (20 : Int) < K.S := by
          cases ft
          · exact .inl rfl
          · right; right; simp at hft; omega
        by_cases hN : X.length = K.N
        · have h4 := hK.N_b
          obtain ⟨b, off, rfl, hbl, _⟩ := hC 0 (by omega)
          have rd : RdW w b off X := ⟨hbl, fun i hi => by
            obtain ⟨b', off', e, _, q⟩ := hC i hi
            simp only [Option.some.injEq, Addr.mk.injEq] at e
            obtain ⟨rfl, rfl, -⟩ := e
            exact q⟩
          have hlt := getD_lt (by omega) hX
          rw [hN]
          exact lists_same (xs := lst K X) w (by omega) (fun w' hb => (slist_yes hK (rd.below hb) hN hlt).mono fun e w'' ⟨v, he, hI, _, b⟩ => ⟨v, he, hI, b⟩) (fun w' hb => (rlist_yes hK (rd.below hb) hN hlt).mono fun e w'' ⟨v, he, hI, _, b⟩ => ⟨v, he, hI, b⟩) (by have := lst_len K X; have := hK.s64; omega) hf
        · exact lists_same (xs := []) w hn (fun w' _ => (slist_no hK _ _ _ hN w').mono fun e w'' ⟨he, hb⟩ => ⟨_, he, IsI.nil _, hb⟩) (fun w' _ => (rlist_no hK _ _ _ hN w').mono fun e w'' ⟨he, hb⟩ => ⟨_, he, IsI.nil _, hb⟩) (by simp) hf
  · exact lists_long w (by omega)
end Go.Proofs.Ytcfallaekedmkaa
