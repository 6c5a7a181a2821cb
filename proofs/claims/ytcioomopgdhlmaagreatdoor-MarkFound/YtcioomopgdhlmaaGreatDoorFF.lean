/- The reference's Found: what it knows, and its three loops. -/
import Derived.Test.YtcioomopgdhlmaaGreatDoorFR
import Derived.Test.YtcioomopgdhlmaaGreatDoorCFc
import Derived.Deep.OwnRows
namespace Go.Proofs.YtcioomopgdhlmaaGreatDoor
open Go.RowKit
open Mm (IsMem MS touched Only IsWords)
open Hh (WT okW wordOf IsHd)

/-- What the reference's Found knows of the world: its config, two rows of bools, an own list. -/
structure Rf (w wr : World) (K : Cf) (bc R1 R2 : Nat) (v : Value) (F : List Int) (A B : Nat → Bool) : Prop where
  rv : Rv w wr K bc v F
  r1 : wr.heap[R1]? = some (.cells (bools K.S A) 4 (0, 0))
  r2 : wr.heap[R2]? = some (.cells (bools K.S B) 4 (0, 0))
  n1 : w.heap.size ≤ R1
  n2 : w.heap.size ≤ R2
  ne : R1 ≠ R2
theorem Rf.below {w wr w' : World} {K : Cf} {bc R1 R2 : Nat} {v : Value} {F : List Int} {A B : Nat → Bool} (h : Rf w wr K bc R1 R2 v F A B) (k : Below wr.heap.size wr w') : Rf w w' K bc R1 R2 v F A B :=
  ⟨h.rv.below k, (k.block _ (lt_of_block h.r1)).trans h.r1, (k.block _ (lt_of_block h.r2)).trans h.r2, h.n1, h.n2, h.ne⟩
theorem Rf.grow {w wr w2 : World} {K : Cf} {bc R1 R2 : Nat} {v v' : Value} {F F' : List Int} {A B : Nat → Bool} (h : Rf w wr K bc R1 R2 v F A B) (hI : IsZ w2 v' F') (g : wr.grownBy w2 v.ownBlock) (hp : v'.ownBlock = v.ownBlock ∨ ∃ g, v'.ownBlock = some g ∧ wr.heap.size ≤ g) : Rf w w2 K bc R1 R2 v' F' A B :=
  ⟨h.rv.grow hI g hp, (g.block _ (lt_of_block h.r1) (fun e => h.rv.own.apart h.r1 (by decide) e.symm)).trans h.r1, (g.block _ (lt_of_block h.r2) (fun e => h.rv.own.apart h.r2 (by decide) e.symm)).trans h.r2, h.n1, h.n2, h.ne⟩
theorem Rf.newl {w wr w2 : World} {K : Cf} {bc R1 R2 : Nat} {v v' : Value} {F F' : List Int} {A B : Nat → Bool} (h : Rf w wr K bc R1 R2 v F A B) (k : Below wr.heap.size wr w2) (hI : IsZ w2 v' F') (ho : ∀ g, v'.ownBlock = some g → wr.heap.size ≤ g) : Rf w w2 K bc R1 R2 v' F' A B := by
  have h2 := h.below k
  exact ⟨⟨h2.rv.cfg, hI, fun g hg => Nat.le_trans h.rv.bel.size (ho g hg), h2.rv.bel⟩, h2.r1, h2.r2, h2.n1, h2.n2, h2.ne⟩
theorem Rf.put {w wr : World} {K : Cf} {bc R1 R2 : Nat} {v : Value} {F : List Int} {A B : Nat → Bool} (h : Rf w wr K bc R1 R2 v F A B) {R : Nat} {c : Array Value} (hc : wr.heap[R]? = some (.cells c 4 (0, 0))) (hR : w.heap.size ≤ R) (n : Nat) (x : Value) : Rv w (wr.setCell ⟨R, n, none⟩ x) K bc v F := by
  refine ⟨?_, h.rv.own.kept fun g hg => Below.heap_setCell _ _ _ _ ?_, h.rv.og, h.rv.bel.setCell hR _⟩
  · show (wr.setCell ⟨R, n, none⟩ x).heap[bc]? = _
    rw [Below.heap_setCell _ _ _ _ (by intro e; have e2 : bc = R := e; subst e2; have h0 := h.rv.cfg; unfold IsCfg at h0; rw [hc] at h0; simp at h0)]
    exact h.rv.cfg
  · intro e
    have e2 : g = R := e
    subst e2
    exact h.rv.own.apart hc (by decide) hg
theorem Rf.mark1 {w wr : World} {K : Cf} {bc R1 R2 : Nat} {v : Value} {F : List Int} {A B : Nat → Bool} (h : Rf w wr K bc R1 R2 v F A B) (n : Nat) (x : Bool) : Rf w (wr.setCell ⟨R1, n, none⟩ (.bool x)) K bc R1 R2 v F (setB A n x) B := by
  refine ⟨h.put h.r1 h.n1 n _, ?_, ?_, h.n1, h.n2, h.ne⟩
  · have := Mm.heap_setCell_at (o := n) h.r1 (.bool x)
    rw [bools_set] at this
    exact this
  · rw [Below.heap_setCell _ _ _ _ (fun e => h.ne e.symm)]
    exact h.r2
theorem Rf.mark2 {w wr : World} {K : Cf} {bc R1 R2 : Nat} {v : Value} {F : List Int} {A B : Nat → Bool} (h : Rf w wr K bc R1 R2 v F A B) (n : Nat) (x : Bool) : Rf w (wr.setCell ⟨R2, n, none⟩ (.bool x)) K bc R1 R2 v F A (setB B n x) := by
  refine ⟨h.put h.r2 h.n2 n _, ?_, ?_, h.n1, h.n2, h.ne⟩
  · rw [Below.heap_setCell _ _ _ _ (fun e => h.ne e)]
    exact h.r1
  · have := Mm.heap_setCell_at (o := n) h.r2 (.bool x)
    rw [bools_set] at this
    exact this
theorem Rf.c1 {w wr : World} {K : Cf} {bc R1 R2 : Nat} {v : Value} {F : List Int} {A B : Nat → Bool} (h : Rf w wr K bc R1 R2 v F A B) {n : Nat} (hn : n < K.S) {x : Bool} (hx : A n = x) : wr.cell? ⟨R1, n, none⟩ = some (.bool x) ∧ wr.frozen? ⟨R1, n, none⟩ = false := ⟨by simp only [World.cell?, h.r1]; rw [← hx]; exact bools_get A hn, by simp [World.frozen?, h.r1]⟩
theorem Rf.c2 {w wr : World} {K : Cf} {bc R1 R2 : Nat} {v : Value} {F : List Int} {A B : Nat → Bool} (h : Rf w wr K bc R1 R2 v F A B) {n : Nat} (hn : n < K.S) {x : Bool} (hx : B n = x) : wr.cell? ⟨R2, n, none⟩ = some (.bool x) ∧ wr.frozen? ⟨R2, n, none⟩ = false := ⟨by simp only [World.cell?, h.r2]; rw [← hx]; exact bools_get B hn, by simp [World.frozen?, h.r2]⟩

def grn (K : Cf) (X : List Nat) (n : Nat) : Nat → Bool := fun s => decide (s < n) && grayW (X.getD (K.hd s) 0)
theorem grn_succ (K : Cf) (X : List Nat) (n : Nat) : setB (grn K X n) n (grayW (X.getD (K.hd n) 0)) = grn K X (n + 1) := by
  funext s
  unfold setB grn
  by_cases h : s = n
  · subst h; simp
  · have e1 : decide (s < n) = decide (s < n + 1) := by by_cases h2 : s < n <;> simp <;> omega
    simp [h, e1]
theorem grn_zero (K : Cf) (X : List Nat) : grn K X 0 = fun _ => false := by funext s; simp [grn]

/-- What is to be found, as far as the second loop is. -/
def f2L (K : Cf) (X : List Nat) : Nat → List Int
  | 0 => nn (rtL K X K.C)
  | n + 1 => f2L K X n ++ (if grayW (X.getD (K.hd n) 0) = true then rnL K X n (knW (X.getD (K.hd n) 0)) (arW (X.getD (K.hd n) 0)) 15 else [])
theorem f2L_len (K : Cf) (X : List Nat) : ∀ n, (f2L K X n).length ≤ K.C * (K.D + 1) + 15 * n
  | 0 => by have := nn_len (rtL K X K.C); rw [rtL_len] at this; unfold f2L; omega
  | n + 1 => by
    have := f2L_len K X n
    have h2 := rnL_len K X n (knW (X.getD (K.hd n) 0)) (arW (X.getD (K.hd n) 0)) 15
    unfold f2L
    rw [List.length_append]
    split
    · omega
    · simp only [List.length_nil]; omega
theorem f2L_pos (K : Cf) (X : List Nat) : ∀ n, ∀ x ∈ f2L K X n, 0 ≤ x
  | 0 => fun x hx => (nn_mem.1 hx).2
  | n + 1 => fun x hx => by
    unfold f2L at hx
    rcases List.mem_append.1 hx with hx | hx
    · exact f2L_pos K X n x hx
    · split at hx
      · obtain ⟨_, _, _, _, h⟩ := (rnL_mem K X n _ _ 15).1 hx; exact h
      · cases hx
theorem f2L_mem {K : Cf} (hB : 3 ≤ K.B) (hB8 : K.B ≤ 8) (X : List Nat) (e : Nat) (s : Nat) : ∀ n, (s : Int) ∈ f2L K X n ↔ (gp K X e).rt s ∨ ∃ u, u < n ∧ (gp K X e).g u = true ∧ (gp K X e).nam u s
  | 0 => by
    unfold f2L
    rw [nn_mem]
    constructor
    · rintro ⟨h, _⟩; exact .inl h
    · rintro (h | ⟨u, h, _⟩)
      · exact ⟨h, by omega⟩
      · omega
  | n + 1 => by
    have ih := f2L_mem hB hB8 X e s n
    unfold f2L
    rw [List.mem_append, ih]
    constructor
    · rintro ((h | ⟨u, h1, h2⟩) | h)
      · exact .inl h
      · exact .inr ⟨u, by omega, h2⟩
      · split at h
        · rename_i hg
          exact .inr ⟨n, by omega, hg, ((rnL_nm hB hB8 X n).1 h).1⟩
        · cases h
    · rintro (h | ⟨u, h1, h2, h3⟩)
      · exact .inl (.inl h)
      · by_cases e : u = n
        · subst e
          right
          rw [if_pos (show grayW (X.getD (K.hd u) 0) = true from h2)]
          exact (rnL_nm hB hB8 X u).2 ⟨h3, by omega⟩
        · exact .inl (.inr ⟨u, by omega, h2, h3⟩)
theorem zs_of : ∀ {F : List Int}, (∀ x ∈ F, 0 ≤ x) → ∃ L : List Nat, F = zs L
  | [], _ => ⟨[], rfl⟩
  | x :: F, h => by
    obtain ⟨L, hL⟩ := zs_of (F := F) fun y hy => h y (List.mem_cons_of_mem _ hy)
    have h0 := h x (List.mem_cons_self ..)
    exact ⟨x.toNat :: L, by rw [hL]; simp [zs]; omega⟩
theorem zs_mem {L : List Nat} {s : Nat} : (s : Int) ∈ zs L ↔ s ∈ L := by
  unfold zs
  rw [List.mem_map]
  constructor
  · rintro ⟨t, h, e⟩
    have : t = s := by omega
    exact this ▸ h
  · intro h; exact ⟨s, h, rfl⟩
theorem zs_app (L L' : List Nat) : zs (L ++ L') = zs L ++ zs L' := by simp [zs]

theorem Rv.rows {w wr : World} {K : Cf} {bc : Nat} {v : Value} {F : List Int} (h : Rv w wr K bc v F) : Rf w ((wr.alloc (.cells (bools K.S fun _ => false) 4)).alloc (.cells (bools K.S fun _ => false) 4)) K bc wr.heap.size (wr.heap.size + 1) v F (fun _ => false) (fun _ => false) := by
  have h1 := new_obj wr (.cells (bools K.S fun _ => false) 4)
  have b1 := alloc_below wr (.cells (bools K.S fun _ => false) 4)
  have e1 : (wr.alloc (.cells (bools K.S fun _ => false) 4)).heap.size = wr.heap.size + 1 := by simp
  generalize wr.alloc (.cells (bools K.S fun _ => false) 4) = w1 at *
  have h2 := new_obj w1 (.cells (bools K.S fun _ => false) 4)
  have b2 := alloc_below w1 (.cells (bools K.S fun _ => false) 4)
  generalize w1.alloc (.cells (bools K.S fun _ => false) 4) = w2 at *
  have hb := h.bel.size
  rw [e1] at h2
  exact ⟨(h.below b1).below b2, (b2.block _ (by omega)).trans h1, h2, hb, by omega, by omega⟩
theorem hd_cell2 {w : World} {H : Nat} {k m a n s : Int} {g : Bool} (h : w.heap[H]? = some (.cells #[.int .i64 k, .int .i64 m, .bool g, .int .i64 a, .int .i64 n, .int .i64 s] 57 (0, 0))) : w.cell? ⟨H, 2, none⟩ = some (.bool g) := by simp [World.cell?, h]
theorem hd_keep {w w' : World} {H : Nat} {c : Array Value} (h : w.heap[H]? = some (.cells c 57 (0, 0))) (b : Below w.heap.size w w') : w'.heap[H]? = some (.cells c 57 (0, 0)) := (b.block _ (lt_of_block h)).trans h
theorem hd_mark {w : World} {H R n : Nat} {c c' : Array Value} {x : Value} (h : w.heap[H]? = some (.cells c 57 (0, 0))) (hr : w.heap[R]? = some (.cells c' 4 (0, 0))) : (w.setCell ⟨R, n, none⟩ x).heap[H]? = some (.cells c 57 (0, 0)) := by
  rw [Below.heap_setCell _ _ _ _ (by intro e; have e2 : H = R := e; subst e2; rw [h] at hr; simp at hr)]
  exact h
theorem ok_gray (W : Nat) : okW W = false → grayW W = false := fun h => by unfold grayW; rw [h]; rfl
end Go.Proofs.YtcioomopgdhlmaaGreatDoor
/- The reference's Found: the walk. -/
namespace Go.Proofs.YtcioomopgdhlmaaGreatDoor
open Go.RowKit
open Mm (IsMem MS touched Only IsWords)
open Hh (WT okW wordOf IsHd)

def RfD (K : Cf) (X : List Nat) (e : Nat) (Fd : Nat → Bool) : Prop := ∃ Th L k, Ri (gp K X e) k L Fd Th ∧ L.length ≤ k
set_option maxRecDepth 100000 in
set_option maxHeartbeats 16000000 in
theorem rfound_any {w : World} {K : Cf} (hK : K.Ok) (hB : 3 ≤ K.B) {b off cap e : Nat} {X : List Nat} (hR : RdW w b off X) (hX : X.length = K.N) (hlt : ∀ i, X.getD i 0 < 18446744073709551616) (he : e < 18446744073709551616) :
    Calls Tryz.prog 7 #[.agg K.cs, .slice (some ⟨b, off, none⟩) K.N cap, .int .u64 (e : Nat)] w fun r w' => ∃ R, r = .returned (.slice (some ⟨R, 0, none⟩) K.S K.S) ∧ w.heap.size ≤ R ∧ Below w.heap.size w w' ∧ ∃ Fd, RfD K X e Fd ∧ w'.heap[R]? = some (.cells (bools K.S Fd) 4 (0, 0)) := by
  have hN := hK.N_b
  have h64 := hK.s64
  have hb8 := hK.b8
  have hc8 := hK.c8
  have hd16 := hK.d16
  have cR := fun w => rright_any K.S K.a K.C K.D K.g K.k w
  rw [hK.r] at cR
  have cW := fun w => words_r K.C K.D K.S K.B K.a K.g K.k hK.c8 hK.d16 hK.s64 hK.b hK.b8 w
  have hNN : nW K.C K.D K.B K.S = K.N := rfl
  rw [hNN] at cW
  clear hNN
  have hmk : ∀ wr, (Instr.makeSlice 29 (.int .i64 (K.S : Nat)) (.int .i64 (K.S : Nat))).run Tryz.prog wr = .ok (.slice (some ⟨wr.heap.size, 0, none⟩) K.S K.S) (wr.alloc (.cells (bools K.S fun _ => false) 4)) := fun wr => by
    rw [← bools_made]
    exact run_make_row' 29 4 (.bool false) 1 (by kernel_rfl) Tryz.info4 rfl .i64 .i64 K.S (by omega) (by omega) wr
  have is0 : Rv w (w.alloc (.cells #[.int .i64 (K.S : Nat), .int .i64 K.a, .int .i64 (K.C : Nat), .int .i64 (K.D : Nat), .int .i64 K.g, .int .i64 K.k] 23)) K w.heap.size (.slice none 0 0) [] := ⟨cfg_new w K.S K.a K.C K.D K.g K.k, IsZ.nil _, (fun g hg => by cases hg), alloc_below _ _⟩
  have HA : ∀ n, n < K.S → ∀ wr, RdW wr b off X → Calls Tryz.prog 29 #[.agg #[.int .i64 (K.S : Nat), .int .i64 K.a, .int .i64 (K.C : Nat), .int .i64 (K.D : Nat), .int .i64 K.g, .int .i64 K.k], .slice (some ⟨b, off, none⟩) K.N cap, .string ⟨#[104, 101, 97, 100, 101, 114]⟩, .int .i64 (n : Nat), .int .i64 0] wr fun e w' => e = .returned (.int .u64 (X.getD (K.hd n) 0 : Nat)) ∧ Below wr.heap.size wr w' := fun n hn wr h => at13_yes hK 8 n 0 (by omega) (K.hd_lt hn) (wat_header K.C K.D K.B n) hX h
  replace HA := hid1 HA
  have HU := hid1 (fun (n : Nat) => runp_any (hlt (K.hd n)))
  have HM := hid1 (fun (n : Nat) => marked_any (hlt (K.hd n)) he)
  have HL := hid1 (fun (n : Nat) => lives_any (hlt (K.hd n)))
  have HS := hid1 (fun (n : Nat) (hn : n < K.S) (wq : World) (h : Below w.heap.size w wq) => rnames_any (cap := cap) hK (hR.below h) hX hlt hn)
  have HT := hid1 (fun (wq : World) (h : Below w.heap.size w wq) => rroots_any (cap := cap) hK (hR.below h) hX hlt)
  have HR := hid1 (fun (wq : World) (h : Below w.heap.size w wq) => hR.below h)
  have hmem := hid1 (fun (s : Nat) => f2L_mem hB hb8 X e s K.S)
  have hnam := hid1 (fun (t : Nat) (x : Int) => rnL_nm (x := x) hB hb8 X t)
  have hGk := hid1 (gp_ok K X e)
  clear hR hlt hX hK
  unfold Cf.cs at *
  unfold cs at *
  go_enter Tryz.func7, Tryz.ntmps7
  obtain ⟨x0, x1, x2, x3, x4, x5⟩ := is0.cfg.cells
  go_upto_region 3 with (first
    | (go_at_call 26; with_reducible refine (cR _).mono ?_; rintro r w1 ⟨rfl, b1⟩; replace is0 := is0.below b1; clear b1 x0 x1 x2 x3 x4 x5; obtain ⟨x0, x1, x2, x3, x4, x5⟩ := is0.cfg.cells)
    | (go_at_call 27; with_reducible refine (cW _).mono ?_; rintro r w2 ⟨RW, capW, rfl, _, _, b2⟩; replace is0 := is0.below b2; clear b2 x0 x1 x2 x3 x4 x5; obtain ⟨x0, x1, x2, x3, x4, x5⟩ := is0.cfg.cells))
  clear cR cW
  go_upto_region 4 with fail
  clear x0 x1 x2 x3 x4 x5
  have x0 := (is0.below (alloc_below w2 (.cells (bools K.S fun _ => false) 4))).cfg.cells.1
  go_upto_region 6 with fail
  clear x0 hmk
  have is := is0.rows
  clear is0
  generalize hR2 : w2.heap.size + 1 = R2 at *
  generalize hR1 : w2.heap.size = R1 at *
  clear hR2 hR1
  generalize World.alloc _ _ = w3 at *
  generalize hbc : w.heap.size = bc at is ⊢
  replace hbc := hid1 hbc
  go_loopw [9] (fun i wr => ∃ (n : Nat), n ≤ K.S ∧ i = .int .i64 n ∧ Rf w wr K bc R1 R2 (.slice none 0 0) [] (m0n K X e n) (grn K X n)) (fun i _ => K.S - (intOf i).toNat)
  case atStart => exact ⟨0, Nat.zero_le _, rfl, by rw [m0n_zero, grn_zero]; exact is⟩
  case round =>
    clear is
    obtain ⟨n1, hn, rfl, is⟩ := hrel
    by_cases hl : n1 < K.S
    · have hl1 : (n1 : Int) < (K.S : Int) := by omega
      have hl0 : (0 : Int) ≤ (n1 : Int) := by omega
      have cA := HA.out n1 hl
      have cU := HU.out n1
      have cM := HM.out n1
      have hm := hid1 (m0n_succ K X e n1)
      have hg := hid1 (grn_succ K X n1)
      have e3 : IntKind.i64.wrap ((n1 : Int) + 1) = ((n1 + 1 : Nat) : Int) := by rw [IntKind.wrap_i64]; omega
      generalize hn2 : n1 + 1 = n2 at *
      replace hn2 := hid1 hn2
      have hog := hid1 (ok_gray (X.getD (K.hd n1) 0))
      generalize X.getD (K.hd n1) 0 = W at *
      obtain ⟨kz, hkz⟩ : ∃ kz : Int, ((knW W : Nat) : Int) = kz := ⟨_, rfl⟩
      obtain ⟨az, haz⟩ : ∃ az : Int, ((arW W : Nat) : Int) = az := ⟨_, rfl⟩
      rw [hkz, haz] at cU
      clear hkz haz
      generalize okW W = ok at *
      generalize grayW W = gr at *
      generalize mkdW W e = mk at *
      obtain ⟨x0, x1, x2, x3, x4, x5⟩ := is.rv.cfg.cells
      go_upto_region 9 with (first
        | (go_at_call 29; with_reducible refine (cA _ (HR.out _ is.rv.bel)).mono ?_; rintro r w5 ⟨rfl, hb⟩; replace is := is.below hb; clear hb x0 x1 x2 x3 x4 x5)
        | (go_at_call 28; with_reducible refine (cU _).mono ?_; rintro r w6 ⟨⟨m0, n0, s0, rfl⟩, hb⟩; replace is := is.below hb; clear hb; have hh := new_obj w6 (.cells #[.int .i64 kz, .int .i64 m0, .bool gr, .int .i64 az, .int .i64 n0, .int .i64 s0] 57); replace is := is.below (alloc_below _ (.cells #[.int .i64 kz, .int .i64 m0, .bool gr, .int .i64 az, .int .i64 n0, .int .i64 s0] 57))))
      generalize w6.alloc (.cells #[.int .i64 kz, .int .i64 m0, .bool gr, .int .i64 az, .int .i64 n0, .int .i64 s0] 57) = w7 at *
      generalize w6.heap.size = bh at *
      clear cU
      replace hh := hid1 hh
      obtain ⟨x0, x1, x2, x3, x4, x5⟩ := is.rv.cfg.cells
      go_upto_region 10 with (first
        | (go_at_call 29; with_reducible refine (cA _ (HR.out _ is.rv.bel)).mono ?_; rintro r w8 ⟨rfl, hb⟩; replace is := is.below hb; replace hh := hid1 (hd_keep hh.out hb); clear hb x0 x1 x2 x3 x4 x5)
        | (go_at_call 30; with_reducible refine (cM _).mono ?_; rintro r w9 ⟨rfl, hb⟩; replace is := is.below hb; replace hh := hid1 (hd_keep hh.out hb); clear hb; have m2 := (is.c1 hl rfl).1; have m3 := (is.c1 hl rfl).2))
      clear cA cM m2 m3
      replace hh := hid1 (hd_mark (n := n1) (x := .bool mk) hh.out is.r1)
      replace is := is.mark1 n1 mk
      rw [hm.out] at is
      generalize World.setCell _ _ _ = w10 at *
      have y2 := hd_cell2 hh.out
      have m2 := (is.c2 hl rfl).1
      have m3 := (is.c2 hl rfl).2
      cases ok with
      | true =>
        go_wp2
        clear m2 m3 y2
        replace is := is.mark2 n1 gr
        rw [hg.out] at is
        go_roundw
        case rel => exact ⟨n2, by have := hn2.out; omega, rfl, is⟩
        case measure => (have := hn2.out; simp [intOf]; omega)
      | false =>
        obtain rfl : gr = false := hog.out rfl
        go_wp2
        clear m2 m3 y2
        replace is := is.mark2 n1 false
        rw [hg.out] at is
        go_roundw
        case rel => exact ⟨n2, by have := hn2.out; omega, rfl, is⟩
        case measure => (have := hn2.out; simp [intOf]; omega)
    · obtain rfl : n1 = K.S := by omega
      have hl1 : ¬ (K.S : Int) < (K.S : Int) := by omega
      clear HU HM
      obtain ⟨x0, x1, x2, x3, x4, x5⟩ := is.rv.cfg.cells
      go_upto_region 13 with (go_at_call 31; with_reducible refine (HT.out _ is.rv.bel).mono ?_; rintro r w5 ⟨vr, rfl, hI, ho, hb⟩; replace is := is.newl hb hI ho; clear hb hI ho x0 x1 x2 x3 x4 x5; obtain ⟨ad, cp, hv, _⟩ := is.rv.own.form; generalize (nn (rtL K X K.C)).length = q at hv; subst hv)
      clear HT
      have hS0 : Hid (Rf w w5 K bc R1 R2 (.slice ad q cp) (f2L K X 0) (m0n K X e K.S) (grn K X K.S)) := hid1 is
      clear is
      go_loopw [12, 13] (fun l i wr => ∃ (n : Nat), n ≤ K.S ∧ i = .int .i64 n ∧ Rf w wr K bc R1 R2 l (f2L K X n) (m0n K X e K.S) (grn K X K.S)) (fun _ i _ => K.S - (intOf i).toNat)
      case atStart => exact ⟨0, Nat.zero_le _, rfl, hS0.out⟩
      case round =>
        clear hS0
        obtain ⟨n1, hn, rfl, is⟩ := hrel
        by_cases hl : n1 < K.S
        · have hl1 : (n1 : Int) < (K.S : Int) := by omega
          have hl0 : (0 : Int) ≤ (n1 : Int) := by omega
          have e3 : IntKind.i64.wrap ((n1 : Int) + 1) = ((n1 + 1 : Nat) : Int) := by rw [IntKind.wrap_i64]; omega
          have hst : Hid (f2L K X (n1 + 1) = f2L K X n1 ++ (if grayW (X.getD (K.hd n1) 0) = true then rnL K X n1 (knW (X.getD (K.hd n1) 0)) (arW (X.getD (K.hd n1) 0)) 15 else [])) := hid1 rfl
          have hgv : grn K X K.S n1 = grayW (X.getD (K.hd n1) 0) := by unfold grn; rw [decide_eq_true hl]; rfl
          have hN2 := hid1 (fun (wq : World) (h : Below w.heap.size w wq) => HS.out n1 hl wq h)
          have hlen : (f2L K X n1).length + (rnL K X n1 (knW (X.getD (K.hd n1) 0)) (arW (X.getD (K.hd n1) 0)) 15).length ≤ 1000000 := by
            have h1 := f2L_len K X n1
            have h2 := rnL_len K X n1 (knW (X.getD (K.hd n1) 0)) (arW (X.getD (K.hd n1) 0)) 15
            have : K.C * (K.D + 1) ≤ 8 * 17 := Nat.mul_le_mul (by omega) (by omega)
            omega
          replace hlen := hid1 hlen
          generalize hn2 : n1 + 1 = n2 at *
          replace hn2 := hid1 hn2
          generalize rnL K X n1 (knW (X.getD (K.hd n1) 0)) (arW (X.getD (K.hd n1) 0)) 15 = Y at *
          generalize f2L K X n1 = F at *
          obtain ⟨x0, x1, x2, x3, x4, x5⟩ := is.rv.cfg.cells
          obtain ⟨ad2, cp2, hv2, _⟩ := is.rv.own.form
          generalize F.length = q2 at hv2
          subst hv2
          have m2 := (is.c2 hl hgv).1
          clear hgv
          cases hg : grayW (X.getD (K.hd n1) 0) with
          | true =>
            rw [hg] at hst m2
            replace hst : Hid (f2L K X n2 = F ++ Y) := hid1 (by have := hst.out; rw [if_pos rfl] at this; exact this)
            clear hg
            go_wp2_with (first
              | (go_at_call 32; with_reducible refine (hN2.out _ is.rv.bel).mono ?_; rintro r w6 ⟨vy, rfl, hY, hoy, hb⟩; replace is := is.below hb; clear hb hoy x0 x1 x2 x3 x4 x5 m2; obtain ⟨ady, cpy, hvy, _⟩ := hY.form; obtain ⟨qy, hqy⟩ : ∃ qy, Y.length = qy := ⟨_, rfl⟩; rw [hqy] at hvy; clear hqy; subst hvy; replace hY := hid1 hY)
              | (at_builtin; refine wpList_append_zs rfl _ _ rfl _ _ F Y rfl is.rv.own rfl hY.out hlen.out ?_; intro v' w8 hI hg hp; replace is := is.grow hI hg hp; clear hI hg hp hY; obtain ⟨ad', cp', hv', _⟩ := is.rv.own.form; generalize (F ++ Y).length = q' at hv'; subst hv'))
            rw [← hst.out] at is
            go_roundw
            case rel => exact ⟨n2, by have := hn2.out; omega, rfl, is⟩
            case measure => (have := hn2.out; simp [intOf]; omega)
          | false =>
            rw [hg] at hst m2
            replace hst : Hid (f2L K X n2 = F) := hid1 (by have := hst.out; rw [if_neg (by decide), List.append_nil] at this; exact this)
            clear hg
            go_wp2
            rw [← hst.out] at is
            go_roundw
            case rel => exact ⟨n2, by have := hn2.out; omega, rfl, is⟩
            case measure => (have := hn2.out; simp [intOf]; omega)
        · obtain rfl : n1 = K.S := by omega
          have hl1 : ¬ (K.S : Int) < (K.S : Int) := by omega
          obtain ⟨x0, x1, x2, x3, x4, x5⟩ := is.rv.cfg.cells
          obtain ⟨L0, hL0⟩ := zs_of (f2L_pos K X K.S)
          have hri : Ri (gp K X e) 0 L0 (m0n K X e K.S) (grn K X K.S) := by
            rw [m0n_all]
            refine Ri.start hGk.out (fun s => ?_) (fun t ht => by unfold grn; rw [decide_eq_true (show t < K.S from ht)]; rfl)
            rw [← zs_mem, ← hL0]
            exact hmem.out s
          have hbd : L0.length + 15 * unB (grn K X K.S) K.S ≤ 3000 := by
            have h1 := f2L_len K X K.S
            rw [hL0, zs_len] at h1
            have h2 := unB_le (grn K X K.S) K.S
            have : K.C * (K.D + 1) ≤ 8 * 17 := Nat.mul_le_mul (by omega) (by omega)
            omega
          have hp := hid1 (And.intro (Nat.zero_le L0.length) (And.intro hri hbd))
          rw [hL0] at is
          clear hri hbd hL0 hmem
          generalize m0n K X e K.S = Fd at *
          generalize grn K X K.S = Th at *
          obtain ⟨ad2, cp2, hv2, _⟩ := is.rv.own.form
          generalize (zs L0).length = q2 at hv2
          subst hv2
          go_upto_region 18 with fail
          clear x0 x1 x2 x3 x4 x5
          go_loopw [12, 14] (fun l i wr => ∃ (k : Nat) (L : List Nat) (Fd Th : Nat → Bool), i = .int .i64 k ∧ Hid (k ≤ L.length ∧ Ri (gp K X e) k L Fd Th ∧ L.length + 15 * unB Th K.S ≤ 3000) ∧ Rf w wr K bc R1 R2 l (zs L) Fd Th) (fun _ i _ => 3000 - (intOf i).toNat)
          case atStart => exact ⟨0, L0, Fd, Th, rfl, hp, is⟩
          case round =>
            clear is hp
            obtain ⟨k1, L, Fd, Th, rfl, hp, is⟩ := hrel
            obtain ⟨ad, cp, hv, _⟩ := is.rv.own.form
            obtain ⟨q, hq⟩ : ∃ q, (zs L).length = q := ⟨_, rfl⟩
            rw [hq] at hv
            have hqL : L.length = q := by rw [← hq, zs_len]
            replace hq := hid1 hq
            replace hqL := hid1 hqL
            subst hv
            by_cases hl : k1 < q
            · have hl1 : (k1 : Int) < (q : Int) := by omega
              have hl0 : (0 : Int) ≤ (k1 : Int) := by omega
              have hkL : k1 < L.length := by rw [hqL.out]; exact hl
              obtain ⟨s, hs⟩ : ∃ s, L[k1]? = some s := ⟨_, List.getElem?_eq_getElem hkL⟩
              have hsS : s < K.S := hp.out.2.1.lS s (List.mem_of_getElem? hs)
              have hs1 : (s : Int) < (K.S : Int) := by omega
              have hs0 : (0 : Int) ≤ (s : Int) := by omega
              obtain ⟨g, o, rfl⟩ : ∃ g o, ad = some ⟨g, o, none⟩ := by
                obtain ⟨ad', cp', h1, _, h2⟩ := is.rv.own.form
                simp only [Value.slice.injEq] at h1
                obtain ⟨g, o, h3⟩ := h2 (by intro h; have h4 := hqL.out; have h5 : (zs L).length = 0 := by rw [h]; rfl
                                            rw [zs_len] at h5; omega)
                exact ⟨g, o, h1.1.trans h3⟩
              have xj := is.rv.own.cell k1 (by rw [zs_len]; exact hkL)
              have e1 : (zs L).getD k1 0 = (s : Int) := by
                unfold zs
                rw [List.getD_eq_getElem?_getD, List.getElem?_map, hs]
                rfl
              rw [e1] at xj
              clear e1
              have cA := HA.out s hsS
              have cL := HL.out s
              have HS1 := hid1 (fun (wq : World) (h : Below w.heap.size w wq) => HS.out s hsS wq h)
              have hk2' : Hid (L.length ≤ 3000) := hid1 (by have := hp.out.2.2; omega)
              have e3 : IntKind.i64.wrap ((k1 : Int) + 1) = ((k1 + 1 : Nat) : Int) := by have := hk2'.out; rw [IntKind.wrap_i64]; omega
              have hm0 : (gp K X e).m0 s = mkdW (X.getD (K.hd s) 0) e := by show (decide (s < K.S) && mkdW (X.getD (K.hd s) 0) e) = _; rw [decide_eq_true hsS]; rfl
              have hcn : (gp K X e).can s = (livW (X.getD (K.hd s) 0) && !mkdW (X.getD (K.hd s) 0) e) := by show (decide (s < K.S) && canS (X.getD (K.hd s) 0) e) = _; rw [decide_eq_true hsS, can_liv]; rfl
              generalize livW (X.getD (K.hd s) 0) = lv at *
              have hnm := hid1 (fun x => hnam.out s x)
              have hY0 : Hid (∃ L' : List Nat, rnL K X s (knW (X.getD (K.hd s) 0)) (arW (X.getD (K.hd s) 0)) 15 = zs L' ∧ L'.length ≤ 15 ∧ ∀ x, x ∈ L' ↔ (gp K X e).nam s x) := hid1 (by
                obtain ⟨L', hL'⟩ := zs_of (F := rnL K X s (knW (X.getD (K.hd s) 0)) (arW (X.getD (K.hd s) 0)) 15) (fun x hx => by obtain ⟨_, _, _, _, h⟩ := (rnL_mem K X s _ _ 15).1 hx; exact h)
                refine ⟨L', hL', ?_, fun x => ?_⟩
                · have h1 := rnL_len K X s (knW (X.getD (K.hd s) 0)) (arW (X.getD (K.hd s) 0)) 15
                  rw [hL', zs_len] at h1
                  exact h1
                · rw [← zs_mem, ← hL', hnm.out]
                  exact ⟨fun h => h.1, fun h => ⟨h, by omega⟩⟩)
              generalize rnL K X s (knW (X.getD (K.hd s) 0)) (arW (X.getD (K.hd s) 0)) 15 = Y at *
              have hm1 := hid1 hm0
              have hc1 := hid1 hcn
              have hs2 := hid1 hs
              clear hm0 hcn hs
              generalize X.getD (K.hd s) 0 = W at *
              generalize hk2 : k1 + 1 = k2 at *
              replace hk2 := hid1 hk2
              clear hnm hkL
              obtain ⟨x0, x1, x2, x3, x4, x5⟩ := is.rv.cfg.cells
              cases hF : Fd s with
              | true =>
                have m1 := (is.c1 hsS hF).1
                have hp2 : Hid (k2 ≤ L.length ∧ Ri (gp K X e) k2 L Fd Th ∧ L.length + 15 * unB Th K.S ≤ 3000) := hid1 ⟨by have := hk2.out; have := hqL.out; omega, by rw [← hk2.out]; exact hp.out.2.1.skip hs2.out (fun _ => hF), hp.out.2.2⟩
                clear cA cL HS1
                replace hF := hid1 hF
                go_wp2
                go_roundw
                case rel => exact ⟨k2, L, Fd, Th, rfl, hp2, is⟩
                case measure => (have := hp.out; have := hqL.out; have := hk2.out; simp [intOf]; omega)
              | false =>
                have m1 := (is.c1 hsS hF).1
                have hmk : Hid (mkdW W e = false) := hid1 (by
                  cases h : mkdW W e with
                  | false => rfl
                  | true =>
                    have h2 := hp.out.2.1.s2 s (by rw [hm1.out]; exact h)
                    rw [hF] at h2
                    cases h2)
                replace hF := hid1 hF
                cases lv with
                | false =>
                  have hp2 : Hid (k2 ≤ L.length ∧ Ri (gp K X e) k2 L Fd Th ∧ L.length + 15 * unB Th K.S ≤ 3000) := hid1 ⟨by have := hk2.out; have := hqL.out; omega, by rw [← hk2.out]; exact hp.out.2.1.skip hs2.out (fun h => by rw [hc1.out] at h; cases h), hp.out.2.2⟩
                  go_wp2_with (first
                    | (go_at_call 29; with_reducible refine (cA _ (HR.out _ is.rv.bel)).mono ?_; rintro r w6 ⟨rfl, hb⟩; replace is := is.below hb; clear hb x0 x1 x2 x3 x4 x5 m1 xj)
                    | (go_at_call 33; with_reducible refine (cL _).mono ?_; rintro r w7 ⟨rfl, hb⟩; replace is := is.below hb; clear hb))
                  go_roundw
                  case rel => exact ⟨k2, L, Fd, Th, rfl, hp2, is⟩
                  case measure => (have := hp.out; have := hqL.out; have := hk2.out; simp [intOf]; omega)
                | true =>
                  have hcan : Hid ((gp K X e).can s = true) := hid1 (by rw [hc1.out, hmk.out]; rfl)
                  replace hF := hF.out
                  go_upto_region 22 with (first
                    | (go_at_call 29; with_reducible refine (cA _ (HR.out _ is.rv.bel)).mono ?_; rintro r w6 ⟨rfl, hb⟩; replace is := is.below hb; clear hb x0 x1 x2 x3 x4 x5 m1 xj)
                    | (go_at_call 33; with_reducible refine (cL _).mono ?_; rintro r w7 ⟨rfl, hb⟩; replace is := is.below hb; clear hb))
                  have m1 := (is.c1 hsS hF).1
                  have m3 := (is.c1 hsS hF).2
                  go_upto_region 23 with fail
                  clear m1 m3
                  replace is := is.mark1 s true
                  generalize World.setCell _ _ _ = w10 at *
                  have m1 := (is.c2 hsS rfl).1
                  rw [show setB Fd s true = upB Fd s from rfl] at is
                  cases hT : Th s with
                  | true =>
                    rw [hT] at m1
                    have hp2 : Hid (k2 ≤ L.length ∧ Ri (gp K X e) k2 L (upB Fd s) Th ∧ L.length + 15 * unB Th K.S ≤ 3000) := hid1 ⟨by have := hk2.out; have := hqL.out; omega, by rw [← hk2.out]; exact hp.out.2.1.had hs2.out hcan.out hT, hp.out.2.2⟩
                    replace hT := hid1 hT
                    replace hF := hid1 hF
                    go_wp2
                    go_roundw
                    case rel => exact ⟨k2, L, upB Fd s, Th, rfl, hp2, is⟩
                    case measure => (have := hp.out; have := hqL.out; have := hk2.out; simp [intOf]; omega)
                  | false =>
                    rw [hT] at m1
                    obtain ⟨L', hYL, hL15, hLn⟩ := hY0.out
                    have hp2 : Hid (k2 ≤ (L ++ L').length ∧ Ri (gp K X e) k2 (L ++ L') (upB Fd s) (upB Th s) ∧ (L ++ L').length + 15 * unB (upB Th s) K.S ≤ 3000) := hid1 ⟨by have := hk2.out; have := hqL.out; rw [List.length_append]; omega, by rw [← hk2.out]; exact hp.out.2.1.take hGk.out hs2.out hcan.out hLn, by have h1 := unB_up Th hT K.S hsS; have h2 := hp.out.2.2; rw [List.length_append]; omega⟩
                    have hlen : Hid ((zs L).length + Y.length ≤ 1000000) := hid1 (by rw [hYL, zs_len, zs_len]; have := hk2'.out; omega)
                    have m2 := (is.c2 hsS hT).1
                    have m3 := (is.c2 hsS hT).2
                    go_upto_region 25 with fail
                    clear m1 m2 m3
                    replace is := is.mark2 s true
                    rw [show setB Th s true = upB Th s from rfl] at is
                    generalize World.setCell _ _ _ = w11 at *
                    obtain ⟨x0, x1, x2, x3, x4, x5⟩ := is.rv.cfg.cells
                    replace hT := hid1 hT
                    replace hF := hid1 hF
                    replace hYL := hid1 hYL
                    clear hL15 hLn
                    go_wp2_with (first
                      | (go_at_call 32; with_reducible refine (HS1.out _ is.rv.bel).mono ?_; rintro r w6 ⟨vy, rfl, hY, hoy, hb⟩; replace is := is.below hb; clear hb hoy x0 x1 x2 x3 x4 x5; obtain ⟨ady, cpy, hvy, _⟩ := hY.form; obtain ⟨qy, hqy⟩ : ∃ qy, Y.length = qy := ⟨_, rfl⟩; rw [hqy] at hvy; clear hqy; subst hvy; replace hY := hid1 hY)
                      | (at_builtin; refine wpList_append_zs rfl _ _ rfl _ _ (zs L) Y rfl is.rv.own rfl hY.out hlen.out ?_; intro v' w8 hI hg hp'; replace is := is.grow hI hg hp'; clear hI hg hp' hY; obtain ⟨ad', cp', hv', _⟩ := is.rv.own.form; generalize (zs L ++ Y).length = q' at hv'; subst hv'))
                    rw [hYL.out, ← zs_app] at is
                    go_roundw
                    case rel => exact ⟨k2, L ++ L', upB Fd s, upB Th s, rfl, hp2, is⟩
                    case measure => (have := hp.out; have := hqL.out; have := hk2.out; simp [intOf]; omega)
            · have hl1 : ¬ (k1 : Int) < (q : Int) := by omega
              have hge : L.length ≤ k1 := by rw [hqL.out]; omega
              replace hge := hid1 hge
              clear HS HL HA
              go_wp2
              go_ret
              have hb := hbc.out
              have n1 := is.n1
              have n2 := is.rv.bel
              exact ⟨R1, rfl, n1, n2, Fd, ⟨Th, L, k1, hp.out.2.1, hge.out⟩, is.r1⟩
end Go.Proofs.YtcioomopgdhlmaaGreatDoor
