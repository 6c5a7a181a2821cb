/- The law of the count of gray slots of any words, walked. -/
import Derived.Test.YtpfcpkkillklkabDoorDNone
namespace Go.Proofs.YtpfcpkkillklkabDoor
open Go.RowKit
open Mm (IsWords)
open Hh (WT)

/-- A count's contract, from a world on. -/
def Gc (f : Nat) (w0 : World) (s a c d g k : Int) (v : Value) (G : Int) : Prop :=
  ∀ w', Below w0.heap.size w0 w' → WT w' → Calls Tryd.prog f #[.agg (cs s a c d g k), v] w' fun e w'' => e = .returned (.int .i64 G) ∧ Below w'.heap.size w' w''
def C20 (s a c d g k : Int) (M : Nat) : Prop :=
  ∀ w, Calls Tryd.prog 20 #[.agg (cs s a c d g k)] w fun e w' => (∃ R cap, e = .returned (.slice (some ⟨R, 0, none⟩) M cap)) ∧ Below w.heap.size w w'
theorem c20_any {K : Cf} (hK : K.Ok) : C20 K.S K.a K.C K.D K.g K.k K.N :=
  fun w => (words_r K.C K.D K.S K.B K.a K.g K.k hK.c8 hK.d16 hK.s64 hK.b hK.b8 w).mono fun _ _ ⟨R, cap, he, _, _, hb⟩ => ⟨⟨R, cap, he⟩, hb⟩

set_option maxHeartbeats 1000000 in
theorem sgrays_wrong {s a c d g k : Int} (hr : rightB s a c d g k = false) (v : Value) (w : World) :
    Calls Tryd.prog 22 #[.agg (cs s a c d g k), v] w fun e w' => e = .returned (.int .i64 0) ∧ Below w.heap.size w w' := by
  have c1 := right_any s a c d g k
  rw [hr] at c1
  have bel := alloc_below w (.cells #[.int .i64 s, .int .i64 a, .int .i64 c, .int .i64 d, .int .i64 g, .int .i64 k] 23)
  have hh := cfg_new w s a c d g k
  clear hr
  go_enter Tryd.func22, Tryd.ntmps22
  go_upto_region 1 with fail
  generalize w.alloc (.cells #[.int .i64 s, .int .i64 a, .int .i64 c, .int .i64 d, .int .i64 g, .int .i64 k] 23) = w0 at *
  obtain ⟨l0, l1, l2, l3, l4, l5⟩ := hh.cells
  go_wp2_with (go_at_call 38; with_reducible refine (c1 _).mono ?_; rintro e w1 ⟨rfl, hb⟩; replace hh := hh.below hb; replace bel := seq_below bel hb; clear l0 l1 l2 l3 l4 l5; obtain ⟨l0, l1, l2, l3, l4, l5⟩ := hh.cells)
  go_ret
  exact ⟨rfl, bel⟩
set_option maxHeartbeats 1000000 in
theorem sgrays_no {K : Cf} (hK : K.Ok) (ad : Option Addr) (n cap : Nat) (hn : n ≠ K.N) (w : World) :
    Calls Tryd.prog 22 #[.agg K.cs, .slice ad n cap] w fun e w' => e = .returned (.int .i64 0) ∧ Below w.heap.size w w' := by
  have c1 := right_any K.S K.a K.C K.D K.g K.k
  rw [hK.r] at c1
  have c2 := size_yes (s := K.S) (a := K.a) (c := K.C) (d := K.D) (g := K.g) (k := K.k) hK.r
  rw [szI_nat K.C K.D K.S K.B K.a hK.b] at c2
  rw [show nW K.C K.D K.B K.S = K.N from rfl] at c2
  have hne1 : (n : Int) ≠ (K.N : Int) := by omega
  have hh := cfg_new w K.S K.a K.C K.D K.g K.k
  have bel := alloc_below w (.cells #[.int .i64 (K.S : Nat), .int .i64 K.a, .int .i64 (K.C : Nat), .int .i64 (K.D : Nat), .int .i64 K.g, .int .i64 K.k] 23)
  go_enter Tryd.func22, Tryd.ntmps22
  go_upto_region 1 with fail
  generalize w.alloc (.cells #[.int .i64 (K.S : Nat), .int .i64 K.a, .int .i64 (K.C : Nat), .int .i64 (K.D : Nat), .int .i64 K.g, .int .i64 K.k] 23) = w0 at *
  obtain ⟨l0, l1, l2, l3, l4, l5⟩ := hh.cells
  go_wp2_with (first
    | (go_at_call 38; with_reducible refine (c1 _).mono ?_; rintro e w1 ⟨rfl, hb⟩; replace hh := hh.below hb; replace bel := seq_below bel hb; clear l0 l1 l2 l3 l4 l5; obtain ⟨l0, l1, l2, l3, l4, l5⟩ := hh.cells)
    | (go_at_call 39; with_reducible refine (c2 _).mono ?_; rintro e w2 ⟨rfl, hb⟩; replace hh := hh.below hb; replace bel := seq_below bel hb; clear l0 l1 l2 l3 l4 l5; obtain ⟨l0, l1, l2, l3, l4, l5⟩ := hh.cells))
  go_ret
  exact ⟨rfl, bel⟩

set_option maxHeartbeats 4000000 in
theorem count_wrong {s a c d g k : Int} {ad : Option Addr} {n cap : Nat} {ft : Bool} (w : World) (hw : WT w) (hn : n ≤ 700)
    (HG : Gc 22 w s a c d g k (.slice ad n cap) 0) (hr : rightB s a c d g k = false) :
    Calls Tryd.prog 4 #[.agg (cs s a c d g k), .slice ad n cap, .bool ft] w fun e w' => e = .returned (.bool true) ∧ Below w.heap.size w w' := by
  unfold Gc at HG
  have c3 := rright_any s a c d g k
  rw [hr] at c3
  have c4 := awake_any
  have nn : Nn w (w.alloc (.cells #[.int .i64 s, .int .i64 a, .int .i64 c, .int .i64 d, .int .i64 g, .int .i64 k] 23)) s a c d g k := ⟨cfg_new w s a c d g k, alloc_below w _, hw.below (alloc_below w _)⟩
  have bx := nn.bel
  clear hw hr
  cases ft
  · skip
    go_enter Tryd.func4, Tryd.ntmps4
    go_upto_region 1 with fail
    generalize w.alloc (.cells #[.int .i64 s, .int .i64 a, .int .i64 c, .int .i64 d, .int .i64 g, .int .i64 k] 23) = w0 at *
    obtain ⟨l0, l1, l2, l3, l4, l5⟩ := nn.cfg.cells
    go_wp2_with (first
      | (go_at_call 18; with_reducible refine (c3 _).mono ?_; rintro e w5 ⟨rfl, hb⟩; replace nn := nn.below hb; replace bx := seq_below bx hb; clear hb l0 l1 l2 l3 l4 l5; obtain ⟨l0, l1, l2, l3, l4, l5⟩ := nn.cfg.cells)
      | (go_at_call 22; with_reducible refine (HG _ bx nn.wt).mono ?_; rintro e w5 ⟨rfl, hb⟩; replace nn := nn.below hb; replace bx := seq_below bx hb; clear hb l0 l1 l2 l3 l4 l5; obtain ⟨l0, l1, l2, l3, l4, l5⟩ := nn.cfg.cells)
      | (go_at_call 10; with_reducible refine (c4 _ nn.wt).mono ?_; rintro e w5 ⟨rfl, hb⟩; replace nn := nn.below hb; replace bx := seq_below bx hb; clear hb l0 l1 l2 l3 l4 l5; obtain ⟨l0, l1, l2, l3, l4, l5⟩ := nn.cfg.cells))
    go_ret
    exact ⟨rfl, nn.bel⟩
  · skip
    skip
    go_enter Tryd.func4, Tryd.ntmps4
    go_upto_region 1 with fail
    generalize w.alloc (.cells #[.int .i64 s, .int .i64 a, .int .i64 c, .int .i64 d, .int .i64 g, .int .i64 k] 23) = w0 at *
    obtain ⟨l0, l1, l2, l3, l4, l5⟩ := nn.cfg.cells
    go_wp2_with (first
      | (go_at_call 18; with_reducible refine (c3 _).mono ?_; rintro e w5 ⟨rfl, hb⟩; replace nn := nn.below hb; replace bx := seq_below bx hb; clear hb l0 l1 l2 l3 l4 l5; obtain ⟨l0, l1, l2, l3, l4, l5⟩ := nn.cfg.cells)
      | (go_at_call 22; with_reducible refine (HG _ bx nn.wt).mono ?_; rintro e w5 ⟨rfl, hb⟩; replace nn := nn.below hb; replace bx := seq_below bx hb; clear hb l0 l1 l2 l3 l4 l5; obtain ⟨l0, l1, l2, l3, l4, l5⟩ := nn.cfg.cells)
      | (go_at_call 10; with_reducible refine (c4 _ nn.wt).mono ?_; rintro e w5 ⟨rfl, hb⟩; replace nn := nn.below hb; replace bx := seq_below bx hb; clear hb l0 l1 l2 l3 l4 l5; obtain ⟨l0, l1, l2, l3, l4, l5⟩ := nn.cfg.cells))
    go_ret
    exact ⟨rfl, nn.bel⟩

set_option maxHeartbeats 4000000 in
theorem count_no {s a c d g k : Int} {ad : Option Addr} {n cap M : Nat} {ft : Bool} (w : World) (hw : WT w) (hn : n ≤ 700)
    (HG : Gc 22 w s a c d g k (.slice ad n cap) 0) (hr : rightB s a c d g k = true) (c20 : C20 s a c d g k M) (hne : n ≠ M) (hf : ft = false ∨ 20 < s) :
    Calls Tryd.prog 4 #[.agg (cs s a c d g k), .slice ad n cap, .bool ft] w fun e w' => e = .returned (.bool true) ∧ Below w.heap.size w w' := by
  unfold Gc at HG
  unfold C20 at c20
  have hne1 : (n : Int) ≠ (M : Int) := by omega
  have hne2 : ((n : Int) == (M : Int)) = false := by simpa using hne1
  have hne3 : decide ((n : Int) = (M : Int)) = false := by simpa using hne1
  have c3 := rright_any s a c d g k
  rw [hr] at c3
  have c4 := awake_any
  have nn : Nn w (w.alloc (.cells #[.int .i64 s, .int .i64 a, .int .i64 c, .int .i64 d, .int .i64 g, .int .i64 k] 23)) s a c d g k := ⟨cfg_new w s a c d g k, alloc_below w _, hw.below (alloc_below w _)⟩
  have bx := nn.bel
  clear hw hr
  cases ft
  · clear hf
    go_enter Tryd.func4, Tryd.ntmps4
    go_upto_region 1 with fail
    generalize w.alloc (.cells #[.int .i64 s, .int .i64 a, .int .i64 c, .int .i64 d, .int .i64 g, .int .i64 k] 23) = w0 at *
    obtain ⟨l0, l1, l2, l3, l4, l5⟩ := nn.cfg.cells
    go_wp2_with (first
      | (go_at_call 18; with_reducible refine (c3 _).mono ?_; rintro e w5 ⟨rfl, hb⟩; replace nn := nn.below hb; replace bx := seq_below bx hb; clear hb l0 l1 l2 l3 l4 l5; obtain ⟨l0, l1, l2, l3, l4, l5⟩ := nn.cfg.cells)
      | (go_at_call 20; with_reducible refine (c20 _).mono ?_; rintro e w5 ⟨⟨R2, cap2, rfl⟩, hb⟩; replace nn := nn.below hb; replace bx := seq_below bx hb; clear hb l0 l1 l2 l3 l4 l5; obtain ⟨l0, l1, l2, l3, l4, l5⟩ := nn.cfg.cells)
      | (go_at_call 22; with_reducible refine (HG _ bx nn.wt).mono ?_; rintro e w5 ⟨rfl, hb⟩; replace nn := nn.below hb; replace bx := seq_below bx hb; clear hb l0 l1 l2 l3 l4 l5; obtain ⟨l0, l1, l2, l3, l4, l5⟩ := nn.cfg.cells)
      | (go_at_call 10; with_reducible refine (c4 _ nn.wt).mono ?_; rintro e w5 ⟨rfl, hb⟩; replace nn := nn.below hb; replace bx := seq_below bx hb; clear hb l0 l1 l2 l3 l4 l5; obtain ⟨l0, l1, l2, l3, l4, l5⟩ := nn.cfg.cells))
    go_ret
    exact ⟨rfl, nn.bel⟩
  · have hs : 20 < s := by rcases hf with h | h; (cases h); exact h
    clear hf
    go_enter Tryd.func4, Tryd.ntmps4
    go_upto_region 1 with fail
    generalize w.alloc (.cells #[.int .i64 s, .int .i64 a, .int .i64 c, .int .i64 d, .int .i64 g, .int .i64 k] 23) = w0 at *
    obtain ⟨l0, l1, l2, l3, l4, l5⟩ := nn.cfg.cells
    go_wp2_with (first
      | (go_at_call 18; with_reducible refine (c3 _).mono ?_; rintro e w5 ⟨rfl, hb⟩; replace nn := nn.below hb; replace bx := seq_below bx hb; clear hb l0 l1 l2 l3 l4 l5; obtain ⟨l0, l1, l2, l3, l4, l5⟩ := nn.cfg.cells)
      | (go_at_call 20; with_reducible refine (c20 _).mono ?_; rintro e w5 ⟨⟨R2, cap2, rfl⟩, hb⟩; replace nn := nn.below hb; replace bx := seq_below bx hb; clear hb l0 l1 l2 l3 l4 l5; obtain ⟨l0, l1, l2, l3, l4, l5⟩ := nn.cfg.cells)
      | (go_at_call 22; with_reducible refine (HG _ bx nn.wt).mono ?_; rintro e w5 ⟨rfl, hb⟩; replace nn := nn.below hb; replace bx := seq_below bx hb; clear hb l0 l1 l2 l3 l4 l5; obtain ⟨l0, l1, l2, l3, l4, l5⟩ := nn.cfg.cells)
      | (go_at_call 10; with_reducible refine (c4 _ nn.wt).mono ?_; rintro e w5 ⟨rfl, hb⟩; replace nn := nn.below hb; replace bx := seq_below bx hb; clear hb l0 l1 l2 l3 l4 l5; obtain ⟨l0, l1, l2, l3, l4, l5⟩ := nn.cfg.cells))
    go_ret
    exact ⟨rfl, nn.bel⟩

set_option maxHeartbeats 4000000 in
theorem count_yes {s a c d g k : Int} {ad : Option Addr} {n cap : Nat} {G : Int} {ft : Bool} (w : World) (hw : WT w) (hn : n ≤ 700)
    (HG : Gc 22 w s a c d g k (.slice ad n cap) G) (hr : rightB s a c d g k = true) (c20 : C20 s a c d g k n) (HL : Gc 21 w s a c d g k (.slice ad n cap) G) (hf : ft = false ∨ 20 < s) :
    Calls Tryd.prog 4 #[.agg (cs s a c d g k), .slice ad n cap, .bool ft] w fun e w' => e = .returned (.bool true) ∧ Below w.heap.size w w' := by
  unfold Gc at HG HL
  unfold C20 at c20
  have c3 := rright_any s a c d g k
  rw [hr] at c3
  have c4 := awake_any
  have nn : Nn w (w.alloc (.cells #[.int .i64 s, .int .i64 a, .int .i64 c, .int .i64 d, .int .i64 g, .int .i64 k] 23)) s a c d g k := ⟨cfg_new w s a c d g k, alloc_below w _, hw.below (alloc_below w _)⟩
  have bx := nn.bel
  clear hw hr
  cases ft
  · clear hf
    go_enter Tryd.func4, Tryd.ntmps4
    go_upto_region 1 with fail
    generalize w.alloc (.cells #[.int .i64 s, .int .i64 a, .int .i64 c, .int .i64 d, .int .i64 g, .int .i64 k] 23) = w0 at *
    obtain ⟨l0, l1, l2, l3, l4, l5⟩ := nn.cfg.cells
    go_wp2_with (first
      | (go_at_call 18; with_reducible refine (c3 _).mono ?_; rintro e w5 ⟨rfl, hb⟩; replace nn := nn.below hb; replace bx := seq_below bx hb; clear hb l0 l1 l2 l3 l4 l5; obtain ⟨l0, l1, l2, l3, l4, l5⟩ := nn.cfg.cells)
      | (go_at_call 20; with_reducible refine (c20 _).mono ?_; rintro e w5 ⟨⟨R2, cap2, rfl⟩, hb⟩; replace nn := nn.below hb; replace bx := seq_below bx hb; clear hb l0 l1 l2 l3 l4 l5; obtain ⟨l0, l1, l2, l3, l4, l5⟩ := nn.cfg.cells)
      | (go_at_call 21; with_reducible refine (HL _ bx nn.wt).mono ?_; rintro e w5 ⟨rfl, hb⟩; replace nn := nn.below hb; replace bx := seq_below bx hb; clear hb l0 l1 l2 l3 l4 l5; obtain ⟨l0, l1, l2, l3, l4, l5⟩ := nn.cfg.cells)
      | (go_at_call 22; with_reducible refine (HG _ bx nn.wt).mono ?_; rintro e w5 ⟨rfl, hb⟩; replace nn := nn.below hb; replace bx := seq_below bx hb; clear hb l0 l1 l2 l3 l4 l5; obtain ⟨l0, l1, l2, l3, l4, l5⟩ := nn.cfg.cells)
      | (go_at_call 10; with_reducible refine (c4 _ nn.wt).mono ?_; rintro e w5 ⟨rfl, hb⟩; replace nn := nn.below hb; replace bx := seq_below bx hb; clear hb l0 l1 l2 l3 l4 l5; obtain ⟨l0, l1, l2, l3, l4, l5⟩ := nn.cfg.cells))
    go_ret
    exact ⟨rfl, nn.bel⟩
  · have hs : 20 < s := by rcases hf with h | h; (cases h); exact h
    clear hf
    go_enter Tryd.func4, Tryd.ntmps4
    go_upto_region 1 with fail
    generalize w.alloc (.cells #[.int .i64 s, .int .i64 a, .int .i64 c, .int .i64 d, .int .i64 g, .int .i64 k] 23) = w0 at *
    obtain ⟨l0, l1, l2, l3, l4, l5⟩ := nn.cfg.cells
    go_wp2_with (first
      | (go_at_call 18; with_reducible refine (c3 _).mono ?_; rintro e w5 ⟨rfl, hb⟩; replace nn := nn.below hb; replace bx := seq_below bx hb; clear hb l0 l1 l2 l3 l4 l5; obtain ⟨l0, l1, l2, l3, l4, l5⟩ := nn.cfg.cells)
      | (go_at_call 20; with_reducible refine (c20 _).mono ?_; rintro e w5 ⟨⟨R2, cap2, rfl⟩, hb⟩; replace nn := nn.below hb; replace bx := seq_below bx hb; clear hb l0 l1 l2 l3 l4 l5; obtain ⟨l0, l1, l2, l3, l4, l5⟩ := nn.cfg.cells)
      | (go_at_call 21; with_reducible refine (HL _ bx nn.wt).mono ?_; rintro e w5 ⟨rfl, hb⟩; replace nn := nn.below hb; replace bx := seq_below bx hb; clear hb l0 l1 l2 l3 l4 l5; obtain ⟨l0, l1, l2, l3, l4, l5⟩ := nn.cfg.cells)
      | (go_at_call 22; with_reducible refine (HG _ bx nn.wt).mono ?_; rintro e w5 ⟨rfl, hb⟩; replace nn := nn.below hb; replace bx := seq_below bx hb; clear hb l0 l1 l2 l3 l4 l5; obtain ⟨l0, l1, l2, l3, l4, l5⟩ := nn.cfg.cells)
      | (go_at_call 10; with_reducible refine (c4 _ nn.wt).mono ?_; rintro e w5 ⟨rfl, hb⟩; replace nn := nn.below hb; replace bx := seq_below bx hb; clear hb l0 l1 l2 l3 l4 l5; obtain ⟨l0, l1, l2, l3, l4, l5⟩ := nn.cfg.cells))
    go_ret
    exact ⟨rfl, nn.bel⟩

set_option maxHeartbeats 400000 in
theorem count_long {s a c d g k : Int} {ad : Option Addr} {n cap : Nat} {ft : Bool} (w : World) (hw : WT w) (hn : 700 < n) :
    Calls Tryd.prog 4 #[.agg (cs s a c d g k), .slice ad n cap, .bool ft] w fun e w' => e = .returned (.bool true) ∧ Below w.heap.size w w' := by
  have c4 := awake_any
  have bel := alloc_below w (.cells #[.int .i64 s, .int .i64 a, .int .i64 c, .int .i64 d, .int .i64 g, .int .i64 k] 23)
  replace hw := hw.below bel
  go_enter Tryd.func4, Tryd.ntmps4
  go_wp2_with (go_at_call 10; refine (c4 _ hw).mono ?_; rintro e w5 ⟨rfl, hb⟩; replace bel := seq_below bel hb)
  go_ret
  exact ⟨rfl, bel⟩

/-- The first words of one list, written from another's end on. -/
def mixR (X Y : List Nat) : Nat → List Nat
  | 0 => Y
  | j + 1 => (mixR X Y j).set (Y.length - 1 - j) (X.getD j 0)
theorem mixR_len (X Y : List Nat) : ∀ j, (mixR X Y j).length = Y.length
  | 0 => rfl
  | j + 1 => by rw [mixR, List.length_set]; exact mixR_len X Y j
theorem getD_lt {X : List Nat} {B : Nat} (hB : 0 < B) (h : ∀ x ∈ X, x < B) (i : Nat) : X.getD i 0 < B := by
  by_cases hi : i < X.length
  · have e : X.getD i 0 = X[i] := by simp [hi]
    rw [e]; exact h _ (List.getElem_mem hi)
  · have e : X.getD i 0 = 0 := by simp [hi]
    rw [e]; exact hB
theorem mixR_lt (X Y : List Nat) (B : Nat) (hB : 0 < B) (h1 : ∀ x ∈ X, x < B) (h2 : ∀ x ∈ Y, x < B) : ∀ j, ∀ x ∈ mixR X Y j, x < B
  | 0 => h2
  | j + 1 => fun x hx => by
    rcases List.mem_or_eq_of_mem_set hx with h | h
    · exact mixR_lt X Y B hB h1 h2 j x h
    · rw [h]; exact getD_lt hB h1 j

/-- The words of any slice that came in. -/
def Came (w : World) (ad : Option Addr) (X : List Nat) : Prop := ∀ i, i < X.length → ∃ b off, ad = some ⟨b, off, none⟩ ∧ b < w.heap.size ∧ w.cell? ⟨b, off + i, none⟩ = some (.int .u64 (X.getD i 0 : Nat))

set_option maxHeartbeats 4000000 in
theorem count_fit {K : Cf} (hK : K.Ok) {ad : Option Addr} {cap : Nat} {X : List Nat} (w : World) (hw : WT w) (hn : X.length ≤ 700) (hs20 : K.S ≤ 20) (hC : Came w ad X) (hX : ∀ x ∈ X, x < 18446744073709551616) :
    Calls Tryd.prog 4 #[.agg K.cs, .slice ad X.length cap, .bool true] w fun e w' => e = .returned (.bool true) ∧ Below w.heap.size w w' := by
  have c3 := rright_any K.S K.a K.C K.D K.g K.k
  rw [hK.r] at c3
  have c20 := c20_any hK
  unfold C20 at c20
  have c5 := rmemory_any K.C K.D K.S K.B K.a K.g K.k hK.b hK.b8 hK.c8 hK.d16 hK.s64 hK.d1
  have hYl : (memX K.C K.D K.B (nW K.C K.D K.B K.S) (K.S - 1)).length = K.N := memX_len _ _ _ _ _
  have hYb := memX_lt K.C K.D K.B K.S (K.S - 1) hK.d1 hK.s64
  rw [show nW K.C K.D K.B K.S = K.N from rfl] at c5
  rw [show nW K.C K.D K.B K.S = K.N from rfl] at hYl hYb
  have hN := hK.N_b
  have cS : ∀ (R : Nat) (Z : List Nat) (wr : World), IsWords wr R Z → Z.length = K.N → (∀ x ∈ Z, x < 18446744073709551616) → Gc 22 wr K.S K.a K.C K.D K.g K.k (.slice (some ⟨R, 0, none⟩) K.N K.N) ((grN K Z K.S : Nat) : Int) :=
    fun R Z wr hw hl hz w' hb ht => sgrays_any hK hl (getD_lt (by omega) hz) (RdW.of_words (words_below hw hb)) ht
  have cR : ∀ (R : Nat) (Z : List Nat) (wr : World), IsWords wr R Z → Z.length = K.N → (∀ x ∈ Z, x < 18446744073709551616) → Gc 21 wr K.S K.a K.C K.D K.g K.k (.slice (some ⟨R, 0, none⟩) K.N K.N) ((grN K Z K.S : Nat) : Int) :=
    fun R Z wr hw hl hz w' hb ht => lgrays_any hK hl (getD_lt (by omega) hz) (RdW.of_words (words_below hw hb)) ht
  generalize memX K.C K.D K.B K.N (K.S - 1) = Y at *
  unfold Came at hC
  have hset : ∀ j p, p = K.N - 1 - j → mixR X Y (j + 1) = (mixR X Y j).set p (X.getD j 0) := fun j p hp => by rw [hp, mixR, hYl]
  have hlen : ∀ j, (mixR X Y j).length = K.N := fun j => (mixR_len X Y j).trans hYl
  have hlt := mixR_lt X Y 18446744073709551616 (by omega) hX hYb
  have hmix0 : mixR X Y 0 = Y := rfl
  unfold Cf.cs
  have gq : ∀ Z, ∃ q : Int, q = ((grN K Z K.S : Nat) : Int) := fun Z => ⟨_, rfl⟩
  have HB : ∀ (R j : Nat) (wr : World), IsWords wr R (mixR X Y j) → ∃ q : Int, Gc 22 wr K.S K.a K.C K.D K.g K.k (.slice (some ⟨R, 0, none⟩) K.N K.N) q ∧ Gc 21 wr K.S K.a K.C K.D K.g K.k (.slice (some ⟨R, 0, none⟩) K.N K.N) q := fun R j wr hw => ⟨_, cS R _ wr hw (hlen j) (hlt j), cR R _ wr hw (hlen j) (hlt j)⟩
  clear cS cR gq hlt hX hYb hYl
  generalize K.N = M at *
  generalize X.length = n at *
  have hs : (K.S : Int) ≤ 20 := by omega
  generalize (K.S : Int) = s at *
  generalize K.a = a at *
  generalize (K.C : Int) = c at *
  generalize (K.D : Int) = d at *
  generalize K.g = g at *
  generalize K.k = k at *
  clear hK hs20
  have c4 := awake_any
  have nn : Nn w (w.alloc (.cells #[.int .i64 s, .int .i64 a, .int .i64 c, .int .i64 d, .int .i64 g, .int .i64 k] 23)) s a c d g k := ⟨cfg_new w s a c d g k, alloc_below w _, hw.below (alloc_below w _)⟩
  clear hw
  go_enter Tryd.func4, Tryd.ntmps4
  go_upto_region 1 with fail
  generalize w.alloc (.cells #[.int .i64 s, .int .i64 a, .int .i64 c, .int .i64 d, .int .i64 g, .int .i64 k] 23) = w0 at *
  obtain ⟨l0, l1, l2, l3, l4, l5⟩ := nn.cfg.cells
  go_wp2_with (first
    | (go_at_call 18; with_reducible refine (c3 _).mono ?_; rintro e w5 ⟨rfl, hb⟩; replace nn := nn.below hb; clear hb l0 l1 l2 l3 l4 l5; obtain ⟨l0, l1, l2, l3, l4, l5⟩ := nn.cfg.cells)
    | (go_at_call 19; with_reducible refine (c5 _).mono ?_; rintro e w5 ⟨R, rfl, hw, hR, hb⟩; have hlt0 := nn.cfg.lt; replace nn := nn.below hb; clear hb l0 l1 l2 l3 l4 l5; obtain ⟨l0, l1, l2, l3, l4, l5⟩ := nn.cfg.cells))
  have hR1 : w.heap.size + 1 ≤ R := by omega
  clear hR hlt0 c5
  go_loopw [8] (fun i wr => ∃ j : Nat, j ≤ n ∧ j ≤ M ∧ i = .int .i64 j ∧ IsWords wr R (mixR X Y j) ∧ Nn w wr s a c d g k) (fun i _ => n - (intOf i).toNat)
  case atStart => exact ⟨0, Nat.zero_le _, Nat.zero_le _, rfl, by rw [hmix0]; exact hw, nn⟩
  case round =>
    clear hw nn l0 l1 l2 l3 l4 l5 hmix0
    obtain ⟨j, hj, hjM, rfl, hw, nn⟩ := hrel
    obtain ⟨l0, l1, l2, l3, l4, l5⟩ := nn.cfg.cells
    by_cases hjn : j < n
    · by_cases hjm : j < M
      · obtain ⟨b, off, rfl, hbl, q⟩ := hC j hjn
        replace q := (nn.bel.cell (p := ⟨b, off + j, none⟩) hbl).trans q
        obtain ⟨p, hp⟩ : ∃ p, p = M - 1 - j := ⟨_, rfl⟩
        have hz := hset j p hp
        have fz := words_free hw p
        obtain ⟨vj, qj⟩ := words_some hw p (by rw [hlen j]; omega)
        obtain ⟨M1, hM1⟩ : ∃ M1, M1 = M - 1 := ⟨_, rfl⟩
        have h41 : IntKind.i64.wrap ((M : Int) - 1) = (M1 : Int) := by rw [IntKind.wrap_i64]; omega
        have h43 : IntKind.i64.wrap ((M1 : Int) - (j : Int)) = (p : Int) := by rw [IntKind.wrap_i64]; omega
        have hpM : p < M := by omega
        have hpM1 : (p : Int) < (M : Int) := by omega
        clear hset hlen hC HB hp hM1
        generalize X.getD j 0 = x at *
        replace hz : Hid (mixR X Y (j + 1) = (mixR X Y j).set p x) := hz
        go_wp2
        go_roundw
        case rel => exact ⟨j + 1, by omega, by omega, by go_num, hz.out ▸ words_stored hw p x _ rfl, cfg_stored nn.cfg (by omega : w.heap.size ≠ R) _, nn.bel.setCell (p := ⟨R, p, none⟩) (by omega : w.heap.size ≤ R) _, Hh.WT.set nn.wt (by omega) _⟩
        case measure => simp [intOf]; omega
      · obtain ⟨G, HG, HL⟩ := HB R j wr hw
        unfold Gc at HG HL
        have bx := Below.refl wr.heap.size wr
        clear hset hlen hC HB hw
        go_wp2_with (first
          | (go_at_call 18; with_reducible refine (c3 _).mono ?_; rintro e w5 ⟨rfl, hb⟩; replace nn := nn.below hb; replace bx := seq_below bx hb; clear hb l0 l1 l2 l3 l4 l5; obtain ⟨l0, l1, l2, l3, l4, l5⟩ := nn.cfg.cells)
          | (go_at_call 20; with_reducible refine (c20 _).mono ?_; rintro e w5 ⟨⟨R2, cap2, rfl⟩, hb⟩; replace nn := nn.below hb; replace bx := seq_below bx hb; clear hb l0 l1 l2 l3 l4 l5; obtain ⟨l0, l1, l2, l3, l4, l5⟩ := nn.cfg.cells)
          | (go_at_call 21; with_reducible refine (HL _ bx nn.wt).mono ?_; rintro e w5 ⟨rfl, hb⟩; replace nn := nn.below hb; replace bx := seq_below bx hb; clear hb l0 l1 l2 l3 l4 l5; obtain ⟨l0, l1, l2, l3, l4, l5⟩ := nn.cfg.cells)
          | (go_at_call 22; with_reducible refine (HG _ bx nn.wt).mono ?_; rintro e w5 ⟨rfl, hb⟩; replace nn := nn.below hb; replace bx := seq_below bx hb; clear hb l0 l1 l2 l3 l4 l5; obtain ⟨l0, l1, l2, l3, l4, l5⟩ := nn.cfg.cells)
          | (go_at_call 10; with_reducible refine (c4 _ nn.wt).mono ?_; rintro e w5 ⟨rfl, hb⟩; replace nn := nn.below hb; replace bx := seq_below bx hb; clear hb l0 l1 l2 l3 l4 l5; obtain ⟨l0, l1, l2, l3, l4, l5⟩ := nn.cfg.cells))
        go_ret
        exact ⟨rfl, nn.bel⟩
    · obtain ⟨G, HG, HL⟩ := HB R j wr hw
      unfold Gc at HG HL
      have bx := Below.refl wr.heap.size wr
      clear hset hlen hC HB hw
      go_wp2_with (first
        | (go_at_call 18; with_reducible refine (c3 _).mono ?_; rintro e w5 ⟨rfl, hb⟩; replace nn := nn.below hb; replace bx := seq_below bx hb; clear hb l0 l1 l2 l3 l4 l5; obtain ⟨l0, l1, l2, l3, l4, l5⟩ := nn.cfg.cells)
        | (go_at_call 20; with_reducible refine (c20 _).mono ?_; rintro e w5 ⟨⟨R2, cap2, rfl⟩, hb⟩; replace nn := nn.below hb; replace bx := seq_below bx hb; clear hb l0 l1 l2 l3 l4 l5; obtain ⟨l0, l1, l2, l3, l4, l5⟩ := nn.cfg.cells)
        | (go_at_call 21; with_reducible refine (HL _ bx nn.wt).mono ?_; rintro e w5 ⟨rfl, hb⟩; replace nn := nn.below hb; replace bx := seq_below bx hb; clear hb l0 l1 l2 l3 l4 l5; obtain ⟨l0, l1, l2, l3, l4, l5⟩ := nn.cfg.cells)
        | (go_at_call 22; with_reducible refine (HG _ bx nn.wt).mono ?_; rintro e w5 ⟨rfl, hb⟩; replace nn := nn.below hb; replace bx := seq_below bx hb; clear hb l0 l1 l2 l3 l4 l5; obtain ⟨l0, l1, l2, l3, l4, l5⟩ := nn.cfg.cells)
        | (go_at_call 10; with_reducible refine (c4 _ nn.wt).mono ?_; rintro e w5 ⟨rfl, hb⟩; replace nn := nn.below hb; replace bx := seq_below bx hb; clear hb l0 l1 l2 l3 l4 l5; obtain ⟨l0, l1, l2, l3, l4, l5⟩ := nn.cfg.cells))
      go_ret
      exact ⟨rfl, nn.bel⟩

theorem count_law (s a c d g k : Int) (ad : Option Addr) (cap : Nat) (X : List Nat) (ft : Bool) (w : World) (hw : WT w) (hC : Came w ad X) (hX : ∀ x ∈ X, x < 18446744073709551616) :
    Calls Tryd.prog 4 #[.agg (cs s a c d g k), .slice ad X.length cap, .bool ft] w fun e w' => e = .returned (.bool true) ∧ Below w.heap.size w w' := by
  by_cases hn : X.length ≤ 700
  · cases hr : rightB s a c d g k
    · exact count_wrong w hw hn (fun w' _ _ => sgrays_wrong hr _ w') hr
    · obtain ⟨K, hK, rfl, rfl, rfl, rfl, rfl, rfl⟩ := Cf.of_right hr
      by_cases hft : ft = true ∧ K.S ≤ 20
      · obtain ⟨rfl, h20⟩ := hft
        exact count_fit hK w hw hn h20 hC hX
      · have hf : ft = false ∨ (20 : Int) < K.S := by
          cases ft
          · exact .inl rfl
          · right; simp at hft; omega
        by_cases hN : X.length = K.N
        · have h4 := hK.N_b
          obtain ⟨b, off, rfl, hbl, _⟩ := hC 0 (by omega)
          have rd : RdW w b off X := ⟨hbl, fun i hi => by
            obtain ⟨b', off', e, _, q⟩ := hC i hi
            simp only [Option.some.injEq, Addr.mk.injEq] at e
            obtain ⟨rfl, rfl, -⟩ := e
            exact q⟩
          have hlt := getD_lt (by omega) hX
          rw [hN]
          exact count_yes w hw (by omega) (fun w' hb ht => sgrays_any hK hN hlt (rd.below hb) ht) hr (c20_any hK) (fun w' hb ht => lgrays_any hK hN hlt (rd.below hb) ht) hf
        · exact count_no w hw hn (fun w' _ _ => sgrays_no hK _ _ _ hN w') hr (c20_any hK) hN hf
  · exact count_long w hw (by omega)
end Go.Proofs.YtpfcpkkillklkabDoor
