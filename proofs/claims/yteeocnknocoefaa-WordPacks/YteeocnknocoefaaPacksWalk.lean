/- The ways through the law WordPacks. -/
import Derived.Test.YteeocnknocoefaaRpack
import Derived.Test.YteeocnknocoefaaBackWalk
namespace Go.Proofs.Yteeocnknocoefaa
open Go.RowKit

theorem pack_unp {N : Nat → Int} {V : Nat → Nat} {k W a : Nat} (h : packSt N V k = some (W, a)) : unpSt N k = some a := by
  induction k generalizing W a with
  | zero => simp [packSt] at h; simp [unpSt, h.2]
  | succ k ih =>
    rw [packSt] at h
    split at h
    · cases h
    · rename_i W' a' h'
      split at h
      · rename_i hc
        simp only [Option.some.injEq, Prod.mk.injEq] at h
        rw [unpSt, ih h']
        simp [hc.1, h.2]
      · cases h

theorem unp_mono {N : Nat → Int} {k a : Nat} (h : unpSt N k = some a) (i : Nat) (hi : i < k) : ∃ p, unpSt N i = some p ∧ 1 ≤ (N i).toNat ∧ p + (N i).toNat ≤ a := by
  induction k generalizing a with
  | zero => omega
  | succ k ih =>
    rw [unpSt] at h
    split at h
    · cases h
    · rename_i a' h'
      split at h
      · rename_i hc
        have h1 := (isSome_iff _ _).1 hc
        simp only [Option.some.injEq] at h
        by_cases e : i = k
        · subst e
          exact ⟨a', h', by omega, by omega⟩
        · obtain ⟨p, h2, h3, h4⟩ := ih h' (by omega)
          exact ⟨p, h2, h3, by omega⟩
      · cases h

theorem getN_low (W a n V p q : Nat) (h : p + q ≤ a) (ha : a ≤ 64) : getN (setN W a n V) p q = getN W p q := by
  apply Nat.eq_of_testBit_eq
  intro i
  rw [testBit_getN, testBit_getN, testBit_setN]
  by_cases hi : i < q
  · have h1 : ¬ (a ≤ p + i ∧ p + i < a + n) := by omega
    have h2 : p + i < 64 := by omega
    simp [hi, h1, h2]
  · simp [hi]

theorem pack_back {N : Nat → Int} {V : Nat → Nat} {k W a : Nat} (h : packSt N V k = some (W, a)) (i : Nat) (hi : i < k) : getN W ((unpSt N i).getD 0) (N i).toNat = V i := by
  induction k generalizing W a with
  | zero => omega
  | succ k ih =>
    rw [packSt] at h
    split at h
    · cases h
    · rename_i W' a' h'
      split at h
      · rename_i hc
        have h1 := (isSome_iff _ _).1 hc.1
        simp only [Option.some.injEq, Prod.mk.injEq] at h
        by_cases e : i = k
        · subst e
          rw [← h.1, pack_unp h']
          show getN (setN W' a' (N i).toNat (V i)) a' (N i).toNat = V i
          rw [back_get W' a' (N i).toNat (V i) (by omega), getN, Nat.pow_zero, Nat.div_one, Nat.mod_eq_of_lt hc.2]
        · obtain ⟨p, h2, h3, h4⟩ := unp_mono (pack_unp h') i (by omega)
          have h5 := ih h' (by omega)
          rw [h2] at h5 ⊢
          rw [← h.1]
          show getN (setN W' a' (N k).toNat (V k)) p (N i).toNat = V i
          rw [getN_low W' a' _ _ p _ h4 (by omega)]
          exact h5
      · cases h

theorem unpL_pack {N : Nat → Int} {V : Nat → Nat} {k W a : Nat} (h : packSt N V k = some (W, a)) : unpL N W k = (List.range k).map fun i => Value.int .u64 ((V i : Nat) : Int) := by
  unfold unpL
  apply List.map_congr_left
  intro i hi
  rw [pack_back h i (by simpa using hi)]

theorem Try.info3 : (Try.prog.info? 3).map (fun i => (i.zero, i.size, i.bytes)) = some (some (.int .i64 0), 1, 8) := by kernel_rfl

theorem below_hid {w w' : World} (h : Hid (∃ m, w' = w.drewN m)) : Below w.heap.size w w' := by
  obtain ⟨m, rfl⟩ := h.out
  exact below_drewN (Below.refl _ _) _

def sizesL (N : Nat → Int) (k : Nat) : List Value := (List.range k).map fun i => Value.int .i64 (N i)
theorem sizesL_step (N : Nat → Int) (k : Nat) : sizesL N (k + 1) = sizesL N k ++ [Value.int .i64 (N k)] := by simp [sizesL, List.range_succ]

theorem own_cells {w : World} {N : Nat → Int} {base len : Nat} {v : Value} (h : w.ownsRow base 3 1 v len (sizesL N len)) (hl : 0 < len) :
    ∃ g c, v = .slice (some ⟨g, 0, none⟩) len c ∧ g < w.heap.size ∧ ∀ i, i < len → w.cell? ⟨g, i, none⟩ = some (.int .i64 (N i)) := by
  have h' := h
  have hlt := h.lt
  obtain ⟨_, ⟨_, h0⟩ | ⟨g, c, cur, rfl, _⟩⟩ := h
  · omega
  · refine ⟨g, c, rfl, (hlt g rfl).2, fun i hi => ?_⟩
    rw [h'.cellAt i (by omega)]
    simp [sizesL, hi]

set_option maxHeartbeats 1000000 in
theorem packs_yes (N : Nat → Int) (V : Nat → Nat) (b off len cap P A : Nat) (w : World) (hlen : 0 < len)
   (hN : ∀ i, i < len → w.cell? ⟨b, off + i * 2, none⟩ = some (.int .i64 (N i))) (hV : ∀ i, i < len → w.cell? ⟨b, off + i * 2 + 1, none⟩ = some (.int .u64 (V i)))
   (bN : ∀ i, i < len → -9223372036854775808 ≤ N i ∧ N i ≤ 9223372036854775807) (bV : ∀ i, i < len → V i < 18446744073709551616)
   (hl : len * 16 ≤ 140737488351232) (hb : b < w.heap.size) (hP : packSt N V len = some (P, A)) :
    Calls Try.prog 6 #[.slice (some ⟨b, off, none⟩) len cap] w fun e w' => e = .returned (.bool true) ∧ Below w.heap.size w w' := by
  have hPb := packSt_bounds hP
  have c1 := pack_some N V b off len cap w hN hV bN bV (by omega) hb
  rw [hP] at c1
  have c1' : Calls Try.prog 16 #[.slice (some ⟨b, off, none⟩) len cap] w fun e w' => e = .returned (.tuple #[.int .u64 (P : Int), .bool true]) ∧ Below w.heap.size w w' := c1
  have c2 : ∀ w1, Below w.heap.size w w1 → Calls Try.prog 17 #[.slice (some ⟨b, off, none⟩) len cap] w1 fun e w' => e = .returned (.tuple #[.int .u64 (P : Int), .bool true]) ∧ Below w.heap.size w w' := by
    intro w1 hb1
    have c := rpack_some N V b off len cap w1 (fun i hi => (hb1.cell hb).trans (hN i hi)) (fun i hi => (hb1.cell hb).trans (hV i hi)) bN bV (by omega)
    rw [hP] at c
    exact c.mono fun _ _ ⟨h1, h2⟩ => ⟨h1, hb1.trans ((below_hid h2).mono hb1.size)⟩
  obtain ⟨i0, hi, hz0, hz1, hz2⟩ := info_parts Try.info3
  clear c1
  go_enter Try.func6, Try.ntmps6
  go_wp2_with (first
    | (go_at_call 16; refine c1'.mono ?_; rintro e w1 ⟨rfl, hb1⟩)
    | (go_at_call 17; refine (c2 _ hb1).mono ?_; rintro e w2 ⟨rfl, hb2⟩))
  have hN2 : ∀ i, i < len → w.cell? ⟨b, off + i * 2, none⟩ = some (.int .i64 (N i)) := hN
  have HP : Hid (packSt N V len = some (P, A)) := hP
  clear hN hP c1' c2 hb1 w1
  go_loopw [7, 8] (fun u i wr => ∃ k : Nat, k ≤ len ∧ i = .int .i64 k ∧ wr.ownsRow w.heap.size 3 1 u k (sizesL N k) ∧ Below w.heap.size w wr) (fun _ i _ => len - (intOf i).toNat)
  case atStart => exact ⟨0, Nat.zero_le _, rfl, World.ownsRow_nil _ _ _ _, hb2⟩
  case round =>
    obtain ⟨k, hk, rfl, hown, hbel⟩ := hrel
    clear hb2
    by_cases hkl : k < len
    · have hc0 : wr.cell? ⟨b, off + k * 2, none⟩ = some (.int .i64 (N k)) := (hbel.cell hb).trans (hN2 k hkl)
      have hLs : Hid (sizesL N (k + 1) = sizesL N k ++ [Value.int .i64 (N k)]) := sizesL_step N k
      clear hN2 hV bN bV
      generalize N k = n at *
      go_wp2_with (first
        | (at_builtin; refine wpList_append_own _ rfl _ _ 32 rfl w.heap.size 3 i0 (.int .i64 0) 1 8 Try.underlying32 hi hz0 hz1 hz2 rfl (by decide) _ k (sizesL N k) rfl ?c0 ⟨wr.heap.size, 0, none⟩ 1 1 [.int .i64 n] rfl rfl ?c1 ?c2 ?c3 ?c4 ?c5 ?_))
      case c0 => exact hown.alloc _
      case c1 => exact cell_one_new wr _ _
      case c2 => intro u hu; simp at hu; subst hu; rfl
      case c3 => unfold maxLen; omega
      case c4 => omega
      case c5 => have := hbel.size; simp; omega
      · intro v' w3 hown' hgrow _
        have R := unp_rel (m := 0) hbel hown hgrow
        rw [← hLs.out] at hown'
        clear hgrow hown hbel
        go_wp2
        go_roundw
        case rel => exact ⟨k + 1, by omega, by go_num, hown', R⟩
        case measure => simp [intOf]; omega
    · have hkn : k = len := by omega
      subst hkn
      obtain ⟨g, c, hu, hgl, hcg⟩ := own_cells hown hlen
      have hU : Calls Try.prog 18 #[.int .u64 P, .slice (some ⟨g, 0, none⟩) k c] wr fun e w' => Below wr.heap.size wr w' ∧ ∃ g2 c2, e = .returned (.tuple #[.slice (some ⟨g2, 0, none⟩) k c2, .bool true]) ∧ ∀ j, j < k → w'.cell? ⟨g2, j, none⟩ = some (.int .u64 (V j)) := by
        refine (unpack_some N P g 0 k c hPb.1 wr (fun i hi => by rw [Nat.zero_add]; exact hcg i hi) bN (by omega) hgl).mono fun e w' ⟨h1, h2⟩ => ⟨h1, ?_⟩
        rcases h2 with ⟨h3, _⟩ | ⟨v, _, rfl, hown2⟩
        · rw [pack_unp HP.out] at h3; cases h3
        · have hown3 := hown2
          obtain ⟨_, ⟨_, h0⟩ | ⟨g2, c2, cur, rfl, _⟩⟩ := hown2
          · omega
          · refine ⟨g2, c2, rfl, fun j hj => ?_⟩
            rw [hown3.cellAt j (by omega), unpL_pack HP.out]
            simp [hj]
      subst hu
      clear hown hcg bN hN2
      go_wp2_with (go_at_call 18; refine hU.mono ?_; rintro e w4 ⟨hb4, g2, c2, rfl, hcell⟩)
      have hb5 : Below w.heap.size w w4 := hbel.trans (hb4.mono hbel.size)
      have hV4 : ∀ i, i < k → w4.cell? ⟨b, off + i * 2 + 1, none⟩ = some (.int .u64 (V i)) := fun i hi => (hb5.cell hb).trans (hV i hi)
      clear hU hbel hb4 hV hgl
      go_loopw [11] (fun i wr => ∃ j : Nat, j ≤ k ∧ i = .int .i64 j ∧ Hid (∃ m, wr = w4.drewN m)) (fun i _ => k - (intOf i).toNat)
      case atStart => exact ⟨0, Nat.zero_le _, rfl, ⟨0, rfl⟩⟩
      case round =>
        obtain ⟨j, hj, rfl, hW1⟩ := hrel
        by_cases hjl : j < k
        · have hc0 : wr.cell? ⟨b, off + j * 2 + 1, none⟩ = some (.int .u64 (V j)) := by obtain ⟨m, rfl⟩ := hW1.out; exact hV4 j hjl
          have hc1 : wr.cell? ⟨g2, j, none⟩ = some (.int .u64 (V j)) := by obtain ⟨m, rfl⟩ := hW1.out; exact hcell j hjl
          clear hV4 hcell bV
          generalize V j = v at *
          go_wp2_with fail
          go_quiet (fail)
          go_wp2
          go_roundw
          case rel => exact ⟨j + 1, by omega, by go_num, drew_on hW1 _⟩
          case measure => simp [intOf]; omega
        · have hjn : j = k := by omega
          subst hjn
          clear hV4 hcell bV
          go_wp2_with (first
            | (go_at_call 11; refine (awake_any _).mono ?_; rintro e w' ⟨rfl, hb6⟩))
          go_ret
          have hb6 := ‹Below wr.heap.size wr _›
          exact ⟨rfl, below_on hb5 hW1 hb6⟩

set_option maxHeartbeats 1000000 in
theorem packs_no (N : Nat → Int) (V : Nat → Nat) (b off len cap : Nat) (w : World)
   (hN : ∀ i, i < len → w.cell? ⟨b, off + i * 2, none⟩ = some (.int .i64 (N i))) (hV : ∀ i, i < len → w.cell? ⟨b, off + i * 2 + 1, none⟩ = some (.int .u64 (V i)))
   (bN : ∀ i, i < len → -9223372036854775808 ≤ N i ∧ N i ≤ 9223372036854775807) (bV : ∀ i, i < len → V i < 18446744073709551616)
   (hl : len * 16 ≤ 140737488351232) (hb : b < w.heap.size) (hP : packSt N V len = none) :
    Calls Try.prog 6 #[.slice (some ⟨b, off, none⟩) len cap] w fun e w' => e = .returned (.bool true) ∧ Below w.heap.size w w' := by
  have c1 := pack_some N V b off len cap w hN hV bN bV (by omega) hb
  rw [hP] at c1
  have c1' : Calls Try.prog 16 #[.slice (some ⟨b, off, none⟩) len cap] w fun e w' => e = .returned (.tuple #[.int .u64 0, .bool false]) ∧ Below w.heap.size w w' := c1
  have c2 : ∀ w1, Below w.heap.size w w1 → Calls Try.prog 17 #[.slice (some ⟨b, off, none⟩) len cap] w1 fun e w' => e = .returned (.tuple #[.int .u64 0, .bool false]) ∧ Below w.heap.size w w' := by
    intro w1 hb1
    have c := rpack_some N V b off len cap w1 (fun i hi => (hb1.cell hb).trans (hN i hi)) (fun i hi => (hb1.cell hb).trans (hV i hi)) bN bV (by omega)
    rw [hP] at c
    exact c.mono fun _ _ ⟨h1, h2⟩ => ⟨h1, hb1.trans ((below_hid h2).mono hb1.size)⟩
  obtain ⟨i0, hi, hz0, hz1, hz2⟩ := info_parts Try.info3
  clear c1
  go_enter Try.func6, Try.ntmps6
  go_wp2_with (first
    | (go_at_call 16; refine c1'.mono ?_; rintro e w1 ⟨rfl, hb1⟩)
    | (go_at_call 17; refine (c2 _ hb1).mono ?_; rintro e w2 ⟨rfl, hb2⟩))
  have hN2 : ∀ i, i < len → w.cell? ⟨b, off + i * 2, none⟩ = some (.int .i64 (N i)) := hN
  have hlen : 0 < len := by
    rcases Nat.eq_zero_or_pos len with h | h
    · subst h; simp [packSt] at hP
    · exact h
  clear hN hP c1' c2 hb1 w1
  go_loopw [7, 8] (fun u i wr => ∃ k : Nat, k ≤ len ∧ i = .int .i64 k ∧ wr.ownsRow w.heap.size 3 1 u k (sizesL N k) ∧ Below w.heap.size w wr) (fun _ i _ => len - (intOf i).toNat)
  case atStart => exact ⟨0, Nat.zero_le _, rfl, World.ownsRow_nil _ _ _ _, hb2⟩
  case round =>
    obtain ⟨k, hk, rfl, hown, hbel⟩ := hrel
    clear hb2
    by_cases hkl : k < len
    · have hc0 : wr.cell? ⟨b, off + k * 2, none⟩ = some (.int .i64 (N k)) := (hbel.cell hb).trans (hN2 k hkl)
      have hLs : Hid (sizesL N (k + 1) = sizesL N k ++ [Value.int .i64 (N k)]) := sizesL_step N k
      clear hN2 hV bN bV
      generalize N k = n at *
      go_wp2_with (first
        | (at_builtin; refine wpList_append_own _ rfl _ _ 32 rfl w.heap.size 3 i0 (.int .i64 0) 1 8 Try.underlying32 hi hz0 hz1 hz2 rfl (by decide) _ k (sizesL N k) rfl ?c0 ⟨wr.heap.size, 0, none⟩ 1 1 [.int .i64 n] rfl rfl ?c1 ?c2 ?c3 ?c4 ?c5 ?_))
      case c0 => exact hown.alloc _
      case c1 => exact cell_one_new wr _ _
      case c2 => intro u hu; simp at hu; subst hu; rfl
      case c3 => unfold maxLen; omega
      case c4 => omega
      case c5 => have := hbel.size; simp; omega
      · intro v' w3 hown' hgrow _
        have R := unp_rel (m := 0) hbel hown hgrow
        rw [← hLs.out] at hown'
        clear hgrow hown hbel
        go_wp2
        go_roundw
        case rel => exact ⟨k + 1, by omega, by go_num, hown', R⟩
        case measure => simp [intOf]; omega
    · have hkn : k = len := by omega
      subst hkn
      obtain ⟨g, c, hu, hgl, hcg⟩ := own_cells hown hlen
      have hU : Calls Try.prog 18 #[.int .u64 0, .slice (some ⟨g, 0, none⟩) k c] wr fun e w' => Below wr.heap.size wr w' ∧ ∃ ao l2 c2 f, e = .returned (.tuple #[.slice ao l2 c2, .bool f]) := by
        refine (unpack_some N 0 g 0 k c (by omega) wr (fun i hi => by rw [Nat.zero_add]; exact hcg i hi) bN (by omega) hgl).mono fun e w' ⟨h1, h2⟩ => ⟨h1, ?_⟩
        rcases h2 with ⟨_, rfl⟩ | ⟨v, _, rfl, hown2⟩
        · exact ⟨_, _, _, _, rfl⟩
        · obtain ⟨_, ⟨rfl, h0⟩ | ⟨g2, c2, cur, rfl, _⟩⟩ := hown2
          · exact ⟨_, _, _, _, rfl⟩
          · exact ⟨_, _, _, _, rfl⟩
      subst hu
      clear hown hcg bN hN2 hV bV
      go_wp2_with (go_at_call 18; refine hU.mono ?_; rintro e w4 ⟨hb4, ao, l2, c2, f, rfl⟩)
      have hb5 : Below w.heap.size w w4 := hbel.trans (hb4.mono hbel.size)
      clear hU hbel hb4 hgl
      refine wp_loop_rounds 1 ?_
      rw [rounds_succ]
      go_wp2_with (first
        | (go_at_call 11; refine (awake_any _).mono ?_; rintro e w' ⟨rfl, hb6⟩))
      all_goals go_ret
      all_goals exact ⟨rfl, hb5.trans (Below.mono (by assumption) hb5.size)⟩

set_option maxHeartbeats 1000000 in
theorem packs_empty (ad : Option Addr) (cap : Nat) (w : World) :
    Calls Try.prog 6 #[.slice ad 0 cap] w fun e w' => e = .returned (.bool true) ∧ Below w.heap.size w w' := by
  have c1 : Calls Try.prog 16 #[.slice ad 0 cap] w fun e w' => e = .returned (.tuple #[.int .u64 0, .bool true]) ∧ Below w.heap.size w w' := pack_empty (fun _ => 0) (fun _ => 0) ad cap w
  have c2 : ∀ w1, Calls Try.prog 17 #[.slice ad 0 cap] w1 fun e w' => e = .returned (.tuple #[.int .u64 0, .bool true]) ∧ Below w1.heap.size w1 w' := fun w1 => (rpack_empty (fun _ => 0) (fun _ => 0) ad cap w1).mono fun _ _ ⟨h1, h2⟩ => ⟨h1, below_hid h2⟩
  have c3 : ∀ w2, Calls Try.prog 18 #[.int .u64 0, .slice none 0 0] w2 fun e w' => Below w2.heap.size w2 w' ∧ ∃ a2 c, e = .returned (.tuple #[.slice a2 0 c, .bool true]) := by
    intro w2
    refine (unpack_empty (fun _ => 0) 0 none 0 w2).mono fun e w' ⟨h1, h2⟩ => ⟨h1, ?_⟩
    rcases h2 with ⟨h3, _⟩ | ⟨v, _, rfl, hown⟩
    · simp [unpSt] at h3
    · obtain ⟨_, ⟨rfl, _⟩ | ⟨g, c, cur, rfl, _⟩⟩ := hown
      · exact ⟨_, _, rfl⟩
      · exact ⟨_, _, rfl⟩
  go_enter Try.func6, Try.ntmps6
  go_wp2_with (first
    | (go_at_call 16; refine c1.mono ?_; rintro e w1 ⟨rfl, hb1⟩)
    | (go_at_call 17; refine (c2 _).mono ?_; rintro e w2 ⟨rfl, hb2⟩))
  refine wp_loop_rounds 1 ?_
  rw [rounds_succ]
  go_wp2_with (go_at_call 18; refine (c3 _).mono ?_; rintro e w3 ⟨hb3, a2, c, rfl⟩)
  refine wp_loop_rounds 1 ?_
  rw [rounds_succ]
  go_wp2_with (go_at_call 11; refine (awake_any _).mono ?_; rintro e w4 ⟨rfl, hb4⟩)
  go_ret
  have h12 := hb1.trans (hb2.mono hb1.size)
  have h13 := h12.trans (hb3.mono h12.size)
  exact ⟨rfl, h13.trans (Below.mono ‹Below w3.heap.size w3 _› h13.size)⟩
end Go.Proofs.Yteeocnknocoefaa
