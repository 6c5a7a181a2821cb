/- The reference's states of layer 17: Held, Fresh. -/
import Derived.Test.YtecppcakgfohbabMRa
namespace Go.Proofs.Ytecppcakgfohbab
open Go.RowKit

theorem heldF_drop (k : Int) {L : List Hl} {j : Nat} {x : Hl} (hd : L.drop j = x :: L.drop (j + 1)) : heldF k (L.drop j) = (if x.c = k then 1 else 0) + heldF k (L.drop (j + 1)) := by rw [hd]; rfl
set_option maxRecDepth 100000 in
set_option maxHeartbeats 4000000 in
theorem held_any {FL : Nat → Prop} {w : World} (S : Sc) {H : List Hl} (hn : S.nH = H.length) (hH : RdHl FL w S.aH H) (hb : S.nH < 4611686018427387904) (k : Int) :
    Calls Try.prog 45 #[.agg S.v, .int .i64 k] w fun r w' => r = .returned (.int .i64 (heldF k H : Nat)) ∧ Below w.heap.size w w' := by
  have is := IsS.new w S
  have bel := alloc_below w (.cells S.v 54)
  have HH := hid1 (hH.below bel)
  have hd := hid1 (show 0 + heldF k (H.drop 0) = heldF k H by rw [Nat.zero_add]; rfl)
  have hN := hid1 hn
  have hle := hid1 (heldF_le k H)
  clear hH hn
  unfold Sc.v at *
  go_enter Try.func45, Try.ntmps45
  go_upto_region 3 with fail
  generalize World.alloc _ _ = w1 at *
  generalize hbc : w.heap.size = bc at is ⊢
  replace hbc := hid1 hbc
  obtain ⟨x0, x1, x2, x3, x4, x5, x6, x7, x8, x9, x10⟩ := is.cells
  clear x0 x1 x2 x3 x4 x5 x6 x8 x9 x10
  go_loop [5, 6] (fun m i => ∃ (j q : Nat), j ≤ S.nH ∧ i = .int .i64 j ∧ m = .int .i64 q ∧ Hid (q + heldF k (H.drop j) = heldF k H)) (fun _ i => S.nH - (intOf i).toNat)
  case atStart => exact ⟨0, 0, Nat.zero_le _, rfl, rfl, hd⟩
  case round =>
    clear hd
    obtain ⟨j, q, hj, rfl, rfl, hd⟩ := hrel
    by_cases hl : j < S.nH
    · have hl1 : (j : Int) < (S.nH : Int) := by omega
      have hl0 : (0 : Int) ≤ (j : Int) := by omega
      obtain ⟨x, hx, hdr⟩ := drop_at (L := H) (i := j) (by have := hN.out; omega)
      obtain ⟨b, off, hA, hlt, y0, y1, y2⟩ := HH.out j x hx
      have hst := heldF_drop k hdr
      have hqb : q < 4611686018427387904 := by have := hd.out; have := hle.out; have := hN.out; omega
      have e3 : IntKind.i64.wrap ((j : Int) + 1) = ((j + 1 : Nat) : Int) := by rw [IntKind.wrap_i64]; omega
      have e4 : IntKind.i64.wrap ((q : Int) + 1) = ((q + 1 : Nat) : Int) := by rw [IntKind.wrap_i64]; omega
      have hd2 := hd.out
      rw [hst] at hd2
      generalize hk2 : j + 1 = j2 at *
      replace hk2 := hid1 hk2
      generalize hq2 : q + 1 = q2 at *
      replace hq2 := hid1 hq2
      rw [hA] at x7
      clear hx hdr hd hlt hA hst hqb
      obtain ⟨xc, xh, xn⟩ := x
      simp only at y0 y1 y2 hd2
      by_cases hc : xc = k
      · have f1 : (xc == k) = true := by simp [hc]
        rw [if_pos hc] at hd2
        have hd3 : Hid (q2 + heldF k (H.drop j2) = heldF k H) := hid1 (by have := hq2.out; omega)
        clear hc hd2
        go_wp2
        go_roundw
        case rel => exact ⟨j2, q2, by have := hk2.out; omega, rfl, rfl, hd3⟩
        case measure => (have := hk2.out; simp [intOf]; omega)
      · have f1 : (xc == k) = false := by simp [hc]
        rw [if_neg hc, Nat.zero_add] at hd2
        replace hd2 := hid1 hd2
        clear hc
        go_wp2
        go_roundw
        case rel => exact ⟨j2, q, by have := hk2.out; omega, rfl, rfl, hd2⟩
        case measure => (have := hk2.out; simp [intOf]; omega)
    · obtain rfl : j = S.nH := by omega
      have hl1 : ¬ (S.nH : Int) < (S.nH : Int) := by omega
      have hend : Hid (q = heldF k H) := hid1 (by have h := hd.out; rw [hN.out, List.drop_length] at h; exact h)
      go_wp2
      go_ret
      exact ⟨by rw [← hend.out]; rfl, bel⟩

/-- Is a handle none that was given, and not 0? -/
def freshF (h : Nat) (G : List Nat) : Bool := !(G.any fun x => decide (x = h)) && decide (h ≠ 0)
theorem fresh_drop (h : Nat) {L : List Nat} {j x : Nat} (hd : L.drop j = x :: L.drop (j + 1)) : ((L.drop j).any fun x => decide (x = h)) = (decide (x = h) || ((L.drop (j + 1)).any fun x => decide (x = h))) := by rw [hd]; rfl
set_option maxRecDepth 100000 in
set_option maxHeartbeats 4000000 in
theorem fresh_any {FL : Nat → Prop} {w : World} (S : Sc) {G : List Nat} (hn : S.nG = G.length) (hG : RdUs FL w S.aG G) (hb : S.nG < 4611686018427387904) (h : Nat) :
    Calls Try.prog 30 #[.agg S.v, .int .u64 (h : Nat)] w fun r w' => r = .returned (.bool (freshF h G)) ∧ Below w.heap.size w w' := by
  have is := IsS.new w S
  have bel := alloc_below w (.cells S.v 54)
  have HH := hid1 (hG.below bel)
  have hd := hid1 (show freshF h G = (!((G.drop 0).any fun x => decide (x = h)) && decide (h ≠ 0)) from rfl)
  have hN := hid1 hn
  clear hG hn
  unfold Sc.v at *
  go_enter Try.func30, Try.ntmps30
  go_upto_region 2 with fail
  generalize World.alloc _ _ = w1 at *
  generalize hbc : w.heap.size = bc at is ⊢
  replace hbc := hid1 hbc
  obtain ⟨x0, x1, x2, x3, x4, x5, x6, x7, x8, x9, x10⟩ := is.cells
  clear x0 x1 x2 x3 x4 x5 x6 x7 x8 x9
  go_loop [5] (fun i => ∃ (j : Nat), j ≤ S.nG ∧ i = .int .i64 j ∧ Hid (freshF h G = (!((G.drop j).any fun x => decide (x = h)) && decide (h ≠ 0)))) (fun i => S.nG - (intOf i).toNat)
  case atStart => exact ⟨0, Nat.zero_le _, rfl, hd⟩
  case round =>
    clear hd
    obtain ⟨j, hj, rfl, hd⟩ := hrel
    by_cases hl : j < S.nG
    · have hl1 : (j : Int) < (S.nG : Int) := by omega
      have hl0 : (0 : Int) ≤ (j : Int) := by omega
      obtain ⟨x, hx, hdr⟩ := drop_at (L := G) (i := j) (by have := hN.out; omega)
      obtain ⟨b, off, hA, hlt, y0⟩ := HH.out j x hx
      have hd2 := hd.out
      rw [fresh_drop h hdr] at hd2
      have e3 : IntKind.i64.wrap ((j : Int) + 1) = ((j + 1 : Nat) : Int) := by rw [IntKind.wrap_i64]; omega
      generalize hk2 : j + 1 = j2 at *
      replace hk2 := hid1 hk2
      rw [hA] at x10
      clear hx hdr hd hlt hA
      by_cases hc : x = h
      · have f1 : ((x : Int) == (h : Int)) = true := by simp [hc]
        have hd3 : Hid (freshF h G = false) := hid1 (by rw [hd2, decide_eq_true hc]; rfl)
        clear hc hd2
        go_wp2
        go_ret
        exact ⟨by rw [hd3.out]; rfl, bel⟩
      · have f1 : ((x : Int) == (h : Int)) = false := by simp; omega
        rw [decide_eq_false hc, Bool.false_or] at hd2
        replace hd2 := hid1 hd2
        clear hc
        go_wp2
        go_roundw
        case rel => exact ⟨j2, by have := hk2.out; omega, rfl, hd2⟩
        case measure => (have := hk2.out; simp [intOf]; omega)
    · obtain rfl : j = S.nG := by omega
      have hl1 : ¬ (S.nG : Int) < (S.nG : Int) := by omega
      have hend : Hid (freshF h G = decide (h ≠ 0)) := hid1 (by have h := hd.out; rw [hN.out, List.drop_length] at h; rw [h]; rfl)
      by_cases h0 : h = 0
      · subst h0
        go_wp2
        go_ret
        exact ⟨by rw [hend.out]; rfl, bel⟩
      · have f0 : ((h : Int) != 0) = true := by simp; omega
        have hend2 : Hid (freshF h G = true) := hid1 (by rw [hend.out]; exact decide_eq_true h0)
        clear hend
        replace h0 := hid1 h0
        go_wp2
        go_ret
        exact ⟨by rw [hend2.out]; rfl, bel⟩
end Go.Proofs.Ytecppcakgfohbab
