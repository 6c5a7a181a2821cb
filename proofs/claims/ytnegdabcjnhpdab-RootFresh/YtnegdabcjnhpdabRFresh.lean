/- The law that no handle is told twice, walked. -/
import Derived.Test.YtnegdabcjnhpdabROwn
namespace Go.Proofs.Ytnegdabcjnhpdab
open Go.RowKit
open Mm (Only wordsOf)

/-- What was told: handles of this client's entries, of tags that these had. -/
def Told (A : List En) (T : List Nat) : Prop := ∀ h ∈ T, ∃ i tg : Nat, i < A.length ∧ 1 ≤ tg ∧ tg ≤ (A.getD i (0, 0)).1 ∧ h = Tg.hW 0 (i : Int) tg
theorem Told.drop {A : List En} {T : List Nat} (h : Told A T) (j : Nat) : Told (A.set j ((A.getD j (0, 0)).1, -1)) T := fun x hx => by
  obtain ⟨i, tg, h1, h2, h3, h4⟩ := h x hx
  refine ⟨i, tg, by simpa using h1, h2, ?_, h4⟩
  rw [getD_setE]
  split
  · rename_i e; rw [e.1]; exact h3
  · exact h3
theorem Told.take {A : List En} {T : List Nat} (h : Told A T) {j : Nat} (hj : j < A.length) (sl : Int) : Told (A.set j ((A.getD j (0, 0)).1 + 1, sl)) (T ++ [Tg.hW 0 (j : Int) ((A.getD j (0, 0)).1 + 1)]) := fun x hx => by
  rw [List.mem_append, List.mem_singleton] at hx
  rcases hx with hx | rfl
  · obtain ⟨i, tg, h1, h2, h3, h4⟩ := h x hx
    refine ⟨i, tg, by simpa using h1, h2, ?_, h4⟩
    rw [getD_setE]
    split
    · rename_i e; rw [e.1]; show tg ≤ (A.getD i (0, 0)).1 + 1; omega
    · exact h3
  · refine ⟨j, (A.getD j (0, 0)).1 + 1, by simpa using hj, by omega, ?_, rfl⟩
    rw [getD_setE, if_pos ⟨rfl, hj⟩]
    exact Nat.le_refl _
theorem Told.fresh {A : List En} {T : List Nat} (h : Told A T) (hA : ∀ x ∈ A, EnOk x) (hl : A.length ≤ 16) {j : Nat} (hj : j < A.length) (ht : (A.getD j (0, 0)).1 < 4294967295) : Tg.hW 0 (j : Int) ((A.getD j (0, 0)).1 + 1) ∉ T := fun hx => by
  obtain ⟨i, tg, h1, h2, h3, h4⟩ := h _ hx
  have e : A.getD i (0, 0) = A[i] := by simp [List.getD, h1]
  have hi := (hA _ (List.getElem_mem h1)).t
  rw [← e] at hi
  obtain ⟨rfl, h5⟩ := hW_inj (Tg.hOk_iff.2 (by omega)) (Tg.hOk_iff.2 (by omega)) h4
  omega

structure Fr (w wr : World) (S : Nat) (a c : Int) (n : Nat) (g k : Int) (P R base : Nat) (A : List En) (v : Value) (T : List Nat) : Prop where
  ow : Ow w wr S a c n g k P R ⟨S, a, c, n, g, k, 0, A⟩
  own : wr.ownsRow base 28 1 v T.length (uvals T)
  hb : P < base ∧ R < base ∧ w.heap.size < base ∧ base ≤ wr.heap.size
  told : Told A T
theorem Fr.below {w wr w' : World} {S : Nat} {a c : Int} {n : Nat} {g k : Int} {P R base : Nat} {A : List En} {v : Value} {T : List Nat} (h : Fr w wr S a c n g k P R base A v T) (b : Below wr.heap.size wr w') : Fr w w' S a c n g k P R base A v T :=
  ⟨h.ow.below b, own_below h.own b, by have := h.hb; have := b.size; omega, h.told⟩
theorem Fr.drew {w wr : World} {S : Nat} {a c : Int} {n : Nat} {g k : Int} {P R base : Nat} {A : List En} {v : Value} {T : List Nat} (h : Fr w wr S a c n g k P R base A v T) : Fr w wr.drew S a c n g k P R base A v T := h.below (Below.refl _ _).drew
theorem Fr.chg {w wr w' : World} {S : Nat} {a c : Int} {n : Nat} {g k : Int} {P R base : Nat} {A A' : List En} {v : Value} {T : List Nat} (h : Fr w wr S a c n g k P R base A v T) (x : Chg [R] wr w') (ht : IsTab w' P R ⟨S, a, c, n, g, k, 0, A'⟩) (hT : Told A' T) : Fr w w' S a c n g k P R base A' v T :=
  ⟨h.ow.chg x ht, own_chg h.own x (by have := h.hb; simp; omega), by have := h.hb; have := x.size; omega, hT⟩
theorem Fr.push {w wr w' : World} {S : Nat} {a c : Int} {n : Nat} {g k : Int} {P R base : Nat} {A : List En} {v : Value} {T : List Nat} (h : Fr w wr S a c n g k P R base A v T) {x gg cap : Nat} (hown : w'.ownsRow base 28 1 (.slice (some ⟨gg, 0, none⟩) (T.length + 1) cap) (T.length + 1) (uvals T ++ [.int .u64 (x : Nat)])) (hg : wr.grownBy w' v.ownBlock) (hT : Told A (T ++ [x])) :
    Fr w w' S a c n g k P R base A (.slice (some ⟨gg, 0, none⟩) (T.length + 1) cap) (T ++ [x]) := by
  have ch := chg_grown hg
  have hb := h.hb
  have hrow : ∀ x, x ∈ v.ownBlock.toList → base ≤ x := fun x hx => (h.own.lt x (by simpa using hx)).1
  have hlow : ∀ x, x < base → x ∉ v.ownBlock.toList := fun x hx hm => by have := hrow x hm; omega
  refine ⟨⟨h.ow.cfg.chg ch (hlow _ (by omega)), h.ow.tab.chg ch (hlow _ (by omega)) (hlow _ (by omega)), ch.below h.ow.bel (fun x hx => by have := hrow x hx; omega) (Nat.le_refl _), h.ow.hP, h.ow.hR⟩, ?_, by have := ch.size; omega, hT⟩
  rw [uvals_push] at hown
  simpa using hown

theorem own_form {w : World} {base : Nat} {e : TypeId} {v : Value} {n : Nat} {xs : List Value} (h : w.ownsRow base e 1 v n xs) : ∃ av cv, v = .slice av n cv ∧ ∀ m, m < n → ∃ g, av = some ⟨g, 0, none⟩ ∧ w.cell? ⟨g, m, none⟩ = xs[m]? := by
  have h' := h
  obtain ⟨h1, ⟨rfl, rfl⟩ | ⟨g, cap, cur, rfl, _⟩⟩ := h
  · exact ⟨none, 0, rfl, fun m hm => by omega⟩
  · exact ⟨some ⟨g, 0, none⟩, cap, rfl, fun m hm => ⟨g, rfl, h'.cellAt m (by omega)⟩⟩
theorem h0_any {P R : Nat} {t : Tb} {w : World} (h : IsTab w P R t) : Calls Try.prog 12 #[.pointer (some ⟨P, 0, none⟩)] w fun e w' => e = .returned (.bool true) ∧ Below w.heap.size w w' := by
  have c1 : Calls Try.prog 13 #[.pointer (some ⟨P, 0, none⟩), .int .u64 0] w fun e w' => e = .returned (.tuple #[.int .i64 0, .int .i64 0, .bool false]) ∧ Below w.heap.size w w' := by
    have c := find_any h 0 (by omega)
    have e : fdOk t 0 = false := by unfold fdOk; rw [show Tg.pOk 0 = false from rfl]; rfl
    rw [(fd_no e).1, (fd_no e).2, e] at c
    exact c
  have c2 := awake_any
  go_enter Try.func12, Try.ntmps12
  go_wp2_with (first
    | (go_at_call 13; refine c1.mono ?_; rintro e w1 ⟨rfl, b⟩)
    | (go_at_call 9; refine (c2 _).mono ?_; rintro e w2 ⟨rfl, b2⟩))
  go_ret
  exact ⟨rfl, seq_below b b2⟩

set_option maxHeartbeats 8000000 in
set_option maxRecDepth 100000 in
theorem fresh_law (s a c d g k : Int) (ad : Option Addr) (N cap : Nat) (Z : Nat → Int) (w : World) (hZ : RdI w ad N Z) (hN : N ≤ maxLen) :
    Calls Try.prog 3 #[.agg (cs s a c d g k), .slice ad N cap] w fun r w' => r = .returned (.bool true) ∧ Below w.heap.size w w' := by
  unfold maxLen at hN
  obtain ⟨i0, hi, hz0, hz1, hz2⟩ := info_parts info28'
  have cf := Fit_any s a c d g k
  have bel := alloc_below w (.cells #[.int .i64 s, .int .i64 a, .int .i64 c, .int .i64 d, .int .i64 g, .int .i64 k] 23)
  have hh := cfg_new w s a c d g k
  go_enter Try.func3, Try.ntmps3
  go_upto_region 1 with fail
  generalize w.alloc (.cells #[.int .i64 s, .int .i64 a, .int .i64 c, .int .i64 d, .int .i64 g, .int .i64 k] 23) = w1 at *
  obtain ⟨l0, l1, l2, l3, l4, l5⟩ := hh.cells
  go_upto_region 2 with (go_at_call 7; refine (cf _).mono ?_; rintro r w2 ⟨⟨s', a', c', d', g', k', rfl, hs1, ha1, hc1, hd1, hg1, hk1⟩, b⟩; replace bel := seq_below bel b; replace hh := hh.below b; obtain ⟨l0, l1, l2, l3, l4, l5⟩ := hh.cells; have y0 := hh.free 0; have y1 := hh.free 1; have y2 := hh.free 2; have y3 := hh.free 3; have y4 := hh.free 4; have y5 := hh.free 5)
  have h3 := cfg_stored6 hh s' a' c' d' g' k'
  have bel3 := below_stored6 bel (Nat.le_refl w.heap.size) (.int .i64 s') (.int .i64 a') (.int .i64 c') (.int .i64 d') (.int .i64 g') (.int .i64 k')
  clear l0 l1 l2 l3 l4 l5 y0 y1 y2 y3 y4 y5 hh cf bel
  generalize ((((((w2.setCell ⟨w.heap.size, 0, none⟩ (.int .i64 s')).setCell ⟨w.heap.size, 1, none⟩ (.int .i64 a')).setCell ⟨w.heap.size, 2, none⟩ (.int .i64 c')).setCell ⟨w.heap.size, 3, none⟩ (.int .i64 d')).setCell ⟨w.heap.size, 4, none⟩ (.int .i64 g')).setCell ⟨w.heap.size, 5, none⟩ (.int .i64 k')) = w3 at *
  have hr : rightB s' a' c' d' g' k' = true := rightB_iff.2 (by omega)
  obtain ⟨n, rfl⟩ : ∃ n : Nat, d' = (n : Int) := ⟨d'.toNat, by omega⟩
  obtain ⟨S, rfl⟩ : ∃ S : Nat, s' = (S : Int) := ⟨s'.toNat, by omega⟩
  have hn : 1 ≤ n ∧ n ≤ 4 := by omega
  have hS : 1 ≤ S ∧ S ≤ 12 := by omega
  have hw0 : be 0 c' = true := be_iff.2 (by omega)
  have c8 := fun wr => newTable_0 (w := wr) n hr hw0 rfl
  have c9 := awake_any
  obtain ⟨l0, l1, l2, l3, l4, l5⟩ := h3.cells
  have hlt3 := h3.lt
  clear hr hw0 b hs1 ha1 hc1 hd1 hg1 hk1
  by_cases hN2 : 200 < N
  · have hNi : (200 : Int) < (N : Int) := by omega
    go_wp2_with (first
      | (go_at_call 8; refine (c8 _).mono ?_; rintro r w4 ⟨P, R, rfl, ht, h1, h2, b⟩; replace bel3 := seq_below bel3 b)
      | (go_at_call 9; refine (c9 _).mono ?_; rintro r w5 ⟨rfl, b⟩; replace bel3 := seq_below bel3 b))
    go_ret
    exact ⟨rfl, bel3⟩
  have hNi : ¬ (200 : Int) < (N : Int) := by omega
  have hNi2 : (N : Int) ≤ 200 := by omega
  go_upto_region 5 with (first
    | (go_at_call 8; refine (c8 _).mono ?_; rintro r w4 ⟨P, R, rfl, ht, h1, h2, b⟩; have ow : Ow w w4 S a' c' n g' k' P R _ := ⟨h3.below b, ht, seq_below bel3 b, by omega, by omega⟩; clear ht b h3 bel3 l0 l1 l2 l3 l4 l5)
    | (go_at_call 9; refine (c9 _).mono ?_; rintro r w5 ⟨rfl, b⟩; replace ow := ow.below b; clear b))
  have hPl := ow.tab.P_lt
  have hRl := ow.tab.R_lt
  have hCl := ow.cfg.lt
  obtain ⟨base, hbase⟩ : ∃ base, w5.heap.size = base := ⟨_, rfl⟩
  have fr : Fr w w5 S a' c' n g' k' P R base (List.replicate n (0, -1)) (.slice none 0 0) [] := ⟨ow, World.ownsRow_nil _ _ _ _, by omega, fun x hx => by cases hx⟩
  clear ow hPl hRl hCl hbase hlt3 h1 h2 c8 c9
  have hnS : (S : Int) ≠ 0 := by omega
  have hnn : (n : Int) ≠ 0 := by omega
  have hKS : IntKind.u64.wrap (S : Int) = (S : Int) := by rw [IntKind.wrap_u64]; omega
  have hKn : IntKind.u64.wrap (n : Int) = (n : Int) := by rw [IntKind.wrap_u64]; omega
  go_wp2
  go_loopw [6, 7] (fun v kk wr => ∃ (j : Nat) (A : List En) (T : List Nat), j ≤ N ∧ kk = .int .i64 j ∧ T.length ≤ j ∧ Fr w wr S a' c' n g' k' P R base A v T) (fun _ kk _ => N - (intOf kk).toNat)
  case atStart => exact ⟨0, _, [], Nat.zero_le _, rfl, Nat.zero_le _, fr⟩
  case round =>
    obtain ⟨j, A, T, hj, rfl, hTj, fj⟩ := hrel
    clear fr
    by_cases hlt : j < N
    · obtain ⟨bb, off, rfl, hbb0, hcl0⟩ := hZ j hlt
      have hbb : bb < wr.heap.size := Nat.lt_of_lt_of_le hbb0 fj.ow.bel.size
      have hcl : wr.cell? ⟨bb, off + j, none⟩ = some (.int .i64 (Z j)) := by rw [fj.ow.bel.cell (p := ⟨bb, off + j, none⟩) hbb0]; exact hcl0
      clear hcl0
      have hu0 : 0 ≤ IntKind.u64.wrap (Z j) := by rw [IntKind.wrap_u64]; omega
      obtain ⟨sl, hsl, hslS⟩ : ∃ kx : Nat, IntKind.i64.wrap ((IntKind.u64.wrap (Z j)).tmod (IntKind.u64.wrap (S : Int))) = (kx : Int) ∧ kx < S := by
        rw [hKS, Int.tmod_eq_emod_of_nonneg hu0]
        have q1 := Int.emod_nonneg (IntKind.u64.wrap (Z j)) hnS
        have q2 := Int.emod_lt_of_pos (IntKind.u64.wrap (Z j)) (show (0 : Int) < S by omega)
        exact ⟨((IntKind.u64.wrap (Z j)) % (S : Int)).toNat, by rw [IntKind.wrap_i64]; omega, by omega⟩
      obtain ⟨dx, hdx, hdxn⟩ : ∃ kx : Nat, IntKind.i64.wrap ((IntKind.u64.wrap (Z j)).tmod (IntKind.u64.wrap (n : Int))) = (kx : Int) ∧ kx < n := by
        rw [hKn, Int.tmod_eq_emod_of_nonneg hu0]
        have q1 := Int.emod_nonneg (IntKind.u64.wrap (Z j)) hnn
        have q2 := Int.emod_lt_of_pos (IntKind.u64.wrap (Z j)) (show (0 : Int) < n by omega)
        exact ⟨((IntKind.u64.wrap (Z j)) % (n : Int)).toNat, by rw [IntKind.wrap_i64]; omega, by omega⟩
      clear hu0
      have hwS : ¬ IntKind.u64.wrap (S : Int) = 0 := by rw [hKS]; omega
      have hwn : ¬ IntKind.u64.wrap (n : Int) = 0 := by rw [hKn]; omega
      have hAl : A.length = n := by have := fj.ow.tab.ok.len; simp only at this; omega
      have hcz : ∀ wr', Below wr.heap.size wr wr' → wr'.cell? ⟨bb, off + j, none⟩ = some (.int .i64 (Z j)) := fun wr' b => by rw [b.cell (p := ⟨bb, off + j, none⟩) hbb]; exact hcl
      have hRb : bb ≠ R := Nat.ne_of_lt (Nat.lt_trans hbb0 fj.ow.hR)
      have hcr : ∀ wr' wr'', Below wr.heap.size wr wr' → Chg [R] wr' wr'' → wr''.cell? ⟨bb, off + j, none⟩ = some (.int .i64 (Z j)) := fun wr' wr'' b x => by
        have e := World.cell?_of_block (w := wr') (w' := wr'') (a := ⟨bb, off + j, none⟩) (x.block bb (Nat.lt_of_lt_of_le hbb b.size) (by simp [hRb]))
        rw [e]; exact hcz _ b
      replace hcr := fun wr' {wr''} b x => hcr wr' wr'' b x
      cases hff : ff A with
      | none =>
        have ct : ∀ wr', IsTab wr' P R ⟨S, a', c', n, g', k', 0, A⟩ → Calls Try.prog 10 #[.pointer (some ⟨P, 0, none⟩), .int .i64 (IntKind.i64.wrap ((IntKind.u64.wrap (Z j)).tmod (IntKind.u64.wrap (S : Int))))] wr' fun e w' => e = .returned (.tuple #[.int .i64 0, .int .u64 0, .bool false]) ∧ Below wr'.heap.size wr' w' := fun wr' h => take_full h _ hff
        have cd : ∀ wr', IsTab wr' P R ⟨S, a', c', n, g', k', 0, A⟩ → Calls Try.prog 11 #[.pointer (some ⟨P, 0, none⟩), .int .i64 (IntKind.i64.wrap ((IntKind.u64.wrap (Z j)).tmod (IntKind.u64.wrap (n : Int))))] wr' fun e w' => (∃ b, e = .returned (.bool b)) ∧ IsTab w' P R ⟨S, a', c', n, g', k', 0, A.set dx ((A.getD dx (0, 0)).1, -1)⟩ ∧ Chg [R] wr' w' := fun wr' h => by
          rw [hdx]
          exact (drop_in h dx (by show dx < A.length; omega) rfl).mono fun e w' ⟨he, h1, h2⟩ => ⟨⟨_, he⟩, h1, h2⟩
        have htd := fj.told.drop dx
        clear hKS hKn hsl hdx
        go_upto_region 9 with fail
        have bz := (Below.refl wr.heap.size wr).drew
        replace fj := fj.drew
        have l0 := fj.ow.cfg.cells.1
        have lz := hcz _ bz
        go_region_held (fun wr' => wr'.cell? ⟨bb, off + j, none⟩ = some (.int .i64 (Z j)) ∧ wr'.cell? ⟨w.heap.size, 0, none⟩ = some (.int .i64 (S : Int))) (exact ⟨hcz _ bz, fj.ow.cfg.cells.1⟩) (first
          | (go_at_call 10; with_reducible refine (ct _ fj.ow.tab).mono ?_; rintro r w6 ⟨rfl, b⟩; replace fj := fj.below b; replace bz := seq_below bz b))
        clear b l0 lz ct
        go_upto_region 11 with fail
        replace bz := seq_below bz (Below.refl _ _).drew
        replace fj := fj.drew
        have l3 := fj.ow.cfg.cells.2.2.2.1
        have lz := hcz _ bz
        go_region_held (fun wr' => wr'.cell? ⟨bb, off + j, none⟩ = some (.int .i64 (Z j)) ∧ wr'.cell? ⟨w.heap.size, 3, none⟩ = some (.int .i64 (n : Int))) (first | (exact ⟨hcz _ bz, fj.ow.cfg.cells.2.2.2.1⟩) | (exact ⟨hcr _ bz ch, fj.ow.cfg.cells.2.2.2.1⟩)) (first
          | (go_at_call 11; with_reducible refine (cd _ fj.ow.tab).mono ?_; rintro r w7 ⟨⟨q, rfl⟩, ht, ch⟩; replace fj := fj.chg ch ht htd))
        go_wp2
        go_roundw
        case rel => exact ⟨j + 1, _, T, by omega, by go_num, by omega, fj⟩
        case measure => simp [intOf]; omega
      | some i =>
        have hil := ff_lt hff
        have hfr := ff_at hff
        have hfr' : (A.getD i (0, 0)).2 = -1 ∧ (A.getD i (0, 0)).1 < 4294967295 := by simpa [frE] using hfr
        have htk := fj.told.take hil (sl : Int)
        have hfs := fj.told.fresh fj.ow.tab.ok.en (by omega) hil hfr'.2
        have ct : ∀ wr', IsTab wr' P R ⟨S, a', c', n, g', k', 0, A⟩ → Calls Try.prog 10 #[.pointer (some ⟨P, 0, none⟩), .int .i64 (IntKind.i64.wrap ((IntKind.u64.wrap (Z j)).tmod (IntKind.u64.wrap (S : Int))))] wr' fun e w' => e = .returned (.tuple #[.int .i64 (i : Nat), .int .u64 (Tg.hW 0 i ((A.getD i (0, 0)).1 + 1) : Nat), .bool true]) ∧ IsTab w' P R ⟨S, a', c', n, g', k', 0, A.set i ((A.getD i (0, 0)).1 + 1, (sl : Int))⟩ ∧ Chg [R] wr' w' := fun wr' h => by
          rw [hsl]
          exact take_yes h sl (by show (sl : Int) < (S : Int); omega) hff rfl
        have htk1 : Told (A.set i ((A.getD i (0, 0)).1 + 1, (sl : Int))) T := fun x hx => htk x (by simp [hx])
        have HTK : Hid (Told (A.set i ((A.getD i (0, 0)).1 + 1, (sl : Int))) (T ++ [Tg.hW 0 i ((A.getD i (0, 0)).1 + 1)])) := htk
        obtain ⟨A', hA'⟩ : ∃ A', A.set i ((A.getD i (0, 0)).1 + 1, (sl : Int)) = A' := ⟨_, rfl⟩
        rw [hA'] at ct htk1 HTK
        obtain ⟨X, hX⟩ : ∃ X, Tg.hW 0 (i : Int) ((A.getD i (0, 0)).1 + 1) = X := ⟨_, rfl⟩
        rw [hX] at ct hfs HTK
        clear hKS hKn hsl hdx hA' hX htk hfr hfr' hil hff hwn hnn
        go_upto_region 9 with fail
        have bz := (Below.refl wr.heap.size wr).drew
        replace fj := fj.drew
        have l0 := fj.ow.cfg.cells.1
        have lz := hcz _ bz
        go_region_held (fun wr' => wr'.cell? ⟨bb, off + j, none⟩ = some (.int .i64 (Z j)) ∧ wr'.cell? ⟨w.heap.size, 0, none⟩ = some (.int .i64 (S : Int))) (first | (exact ⟨hcz _ bz, fj.ow.cfg.cells.1⟩) | (exact ⟨hcr _ bz ch, fj.ow.cfg.cells.1⟩)) (first
          | (go_at_call 10; with_reducible refine (ct _ fj.ow.tab).mono ?_; rintro r w6 ⟨rfl, ht, ch⟩; replace fj := fj.chg ch ht htk1))
        clear ht ch l0 lz ct bz hcz hcr hcl
        obtain ⟨av, cv, hv, hcs⟩ := own_form fj.own
        subst hv
        go_wp2
        go_loop [11] (fun q => ∃ m : Nat, m ≤ T.length ∧ q = .int .i64 m) (fun q => T.length - (intOf q).toNat)
        case atStart => exact ⟨0, Nat.zero_le _, rfl⟩
        case round =>
          obtain ⟨m, hm, rfl⟩ := hrel
          by_cases hml : m < T.length
          · obtain ⟨gg, rfl, hcm⟩ := hcs m hml
            have hne : ¬ (T.getD m 0 : Int) = (X : Int) := fun e => hfs (by
              have : T.getD m 0 = X := by omega
              rw [← this]
              have e2 : T.getD m 0 = T[m] := by simp [List.getD, hml]
              rw [e2]; exact List.getElem_mem hml)
            have hcm2 : w6.cell? ⟨gg, m, none⟩ = some (.int .u64 (T.getD m 0 : Nat)) := by
              rw [hcm]; simp [uvals, List.getD, hml]
            clear hcm hcs
            generalize T.getD m 0 = Y at *
            go_wp2
            go_round
            case rel => exact ⟨m + 1, by omega, by go_num⟩
            case measure => simp [intOf]; omega
          · obtain rfl : m = T.length := by omega
            have h63 : T.length + 1 ≤ maxLen := by unfold maxLen; omega
            have hby : (T.length + 1) * 8 ≤ 140737488355328 := by omega
            clear hcs hm hml hfs
            go_wp2_with (at_builtin; refine wpList_append_lies _ rfl _ _ _ rfl base 28 i0 _ 1 8 Try.underlying30 hi hz0 hz1 hz2 rfl (by decide) _ T.length (uvals T) rfl (fj.own.alloc _) ⟨w6.heap.size, 0, none⟩ 1 1 [.int .u64 (X : Nat)] rfl rfl (World.news_of_block (cs := #[.int .u64 (X : Nat)]) (t := 28) (fr := (0, 0)) (heap_alloc_new _ _)) (by simp [Value.oneCell']) (by omega) h63 hby (by have := fj.hb; simp; omega) (w6.heap.size + 1) (by simp) ?_; intro gg cap' w7 hown hgrow hat hlt'; have fp := (fj.below (alloc_below w6 _)).push hown hgrow HTK.out)
            go_roundw
            case rel => exact ⟨j + 1, _, _, by omega, by go_num, by simp; omega, fp⟩
            case measure => simp [intOf]; omega
    · have c12 := h0_any fj.ow.tab
      go_wp2_with (go_at_call 12; refine c12.mono ?_; rintro r w6 ⟨rfl, b⟩; replace fj := fj.below b)
      go_ret
      exact ⟨rfl, fj.ow.bel⟩
end Go.Proofs.Ytnegdabcjnhpdab
