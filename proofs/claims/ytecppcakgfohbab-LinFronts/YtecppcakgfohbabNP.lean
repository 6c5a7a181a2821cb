/- The model's reached. -/
import Derived.Test.YtecppcakgfohbabNO
namespace Go.Proofs.Ytecppcakgfohbab
open Go.RowKit

theorem one_int {w : World} {x : Int} {g : Nat} (h : w.heap[g]? = some (.cells #[.int .i64 x] 3 (0, 0))) : ∀ j u, (ints [x])[j]? = some u → w.cell? ((⟨g, 0, none⟩ : Addr).add j) = some u := by
  intro j u hj
  match j, hj with
  | 0, hj => obtain rfl : Value.int .i64 x = u := by simpa [ints] using hj
             rw [add_none]; simp [World.cell?, h]
  | j + 1, hj => simp [ints] at hj
set_option maxRecDepth 100000 in
set_option maxHeartbeats 16000000 in
theorem reached_any {w : World} {B : Nat} {L : Nat → Prop} {C : Cg} {n : Nat} {X : Sx} {m : Md} (h : MdOk w B L C n X m) {N : Nat} (iv : X.Fl N) (hN : N < 1000000) {p : Int} (hp : 0 ≤ p ∧ p < X.F.length) :
    Calls Try.prog 73 #[.pointer (some ⟨B, 0, none⟩), .int .i64 p] w fun r w' => ∃ u, r = .returned u ∧ IsZ w' u (reachF X p) ∧ (∀ g, u.ownBlock = some g → w.heap.size ≤ g) ∧ Below w.heap.size w w' := by
  have HM := hid1 (fun (w' : World) (b : Below w.heap.size w w') => h.below b)
  obtain ⟨adN, cpN, hvN⟩ := h.vN
  obtain ⟨nF, hnF⟩ : ∃ nF, X.F.length = nF := ⟨_, rfl⟩
  have hnb : nF < 1000000 := by have := iv.nF; omega
  have hF := hid1 (fun (i : Nat) => rchR_ok iv.field (l0 := [p]) ⟨by simp, fun x hx => by obtain rfl := List.mem_singleton.1 hx; exact hp⟩ i)
  have hE := hid1 (fun (i : Nat) => reach_end (i := i) iv hp)
  have hFl := hid1 iv.field
  have hRow := hid1 iv.row
  rw [hnF] at hvN
  obtain ⟨rz, hrz⟩ : ∃ rz, reachF X p = rz := ⟨_, rfl⟩
  rw [hrz] at hE ⊢
  replace hvN := hid1 hvN
  have hpw := wfI (x := p) hp.1 (by omega)
  -- the first row, and the map
  have h1 := new_obj w (.cells #[.int .i64 p] 3)
  have b1 := alloc_below w (.cells #[.int .i64 p] 3)
  have e1 : (w.alloc (.cells #[.int .i64 p] 3)).heap.size = w.heap.size + 1 := by simp
  have z1 : IsZ (w.alloc (.cells #[.int .i64 p] 3)) (.slice (some ⟨w.heap.size, 0, none⟩) 1 1) [p] := .inr ⟨w.heap.size, 0, 1, _, rfl, h1, Nat.le_refl _, by unfold maxLen; omega, by simp, fun i hi => by
    obtain rfl : i = 0 := by simpa using hi
    rfl⟩
  have m1 := IsMt.made (w.alloc (.cells #[.int .i64 p] 3))
  have b2 := alloc_below (w.alloc (.cells #[.int .i64 p] 3)) (.map #[] 0)
  have r1 : Rq w ((w.alloc (.cells #[.int .i64 p] 3)).alloc (.map #[] 0)) (.slice (some ⟨w.heap.size, 0, none⟩) 1 1) [p] (w.heap.size + 1) 0 [] := ⟨z1.below b2, fun g hg => by cases hg; exact Nat.le_refl _, e1 ▸ m1, Nat.le_succ _, seq_below b1 b2⟩
  obtain ⟨w3, hr3, m3, g3⟩ := r1.mp.add (by omega) hpw
  have r3 := r1.mark m3 g3
  rw [List.nil_append] at r3
  have hmm := @run_makeMap Try.prog
  clear h h1 b1 z1 m1 b2 m3 g3 iv
  replace hrz := hid1 hrz
  go_enter Try.func73, Try.ntmps73
  go_upto_region 4 with fail
  clear hr3 hmm r1 hpw e1
  have hbs : w.heap.size + 1 < 0 ∨ True := .inr trivial
  generalize hbm : w.heap.size + 1 = bm at *
  clear hbm hbs
  have hS := hid1 (Nat.le_refl w.heap.size)
  generalize hbw : w.heap.size = bw at r3 ⊢
  replace r3 : Rq w w3 (.slice (some ⟨bw, 0, none⟩) 1 1) [p] bm 1 [p] := r3
  clear hbw
  replace hnF := hid1 hnF
  go_loopw [5, 7] (fun u i wr => ∃ (q : Nat), q ≤ (rchR X.F [p] q).length ∧ i = .int .i64 q ∧ Rq w wr u (rchR X.F [p] q) bm (rchR X.F [p] q).length (rchR X.F [p] q)) (fun _ i _ => 1000001 - (intOf i).toNat)
  case atStart => exact ⟨0, Nat.zero_le _, rfl, r3⟩
  case round =>
    clear r3
    obtain ⟨q, hq, rfl, is⟩ := hrel
    rename_i wr
    have okq := hF.out q
    have hlen := okq.len
    rw [hnF.out] at hlen
    by_cases hl : q < (rchR X.F [p] q).length
    · obtain ⟨s, hs⟩ : ∃ s, (rchR X.F [p] q)[q]? = some s := ⟨_, List.getElem?_eq_getElem hl⟩
      have hsr := okq.rg s (List.mem_of_getElem? hs)
      rw [hnF.out] at hsr
      obtain ⟨K, hK⟩ : ∃ K, X.F[s.toNat]? = some K := ⟨_, List.getElem?_eq_getElem (by have := hnF.out; omega)⟩
      have hst := rchR_step hs hK
      have hKf := hid1 (hFl.out K (List.mem_of_getElem? hK))
      have hK8 := hRow.out K (List.mem_of_getElem? hK)
      have hRk := hid1 (fun (j : Nat) => rowR_ok (K := K.take j) okq (fun x hx => hKf.out x (List.mem_of_mem_take hx)))
      obtain ⟨gN, ar, cr, hadN, z0, hrw, _⟩ := (HM.out _ is.bel).node hvN.out hK
      subst hadN
      have x6 : wr.cell? ⟨B, 6, none⟩ = some (.slice (some ⟨gN, 0, none⟩) nF cpN) := by have := (HM.out _ is.bel).cells.2.2.2.2.2.2.1; rw [hvN.out] at this; exact this
      obtain ⟨ad1, cp1, hv1, _, hne⟩ := is.own.form
      obtain ⟨g1, o1, rfl⟩ := hne (by intro e; rw [e] at hl; simp at hl)
      have xi : wr.cell? ⟨g1, o1 + q, none⟩ = some (.int .i64 s) := by
        have is' := is.own
        rw [hv1] at is'
        rw [is'.cell q hl, List.getD_eq_getElem?_getD, hs]
        rfl
      have e3 : IntKind.i64.wrap ((q : Int) + 1) = ((q + 1 : Nat) : Int) := by rw [IntKind.wrap_i64]; omega
      obtain ⟨lq, hlq⟩ : ∃ lq, (rchR X.F [p] q).length = lq := ⟨_, rfl⟩
      rw [hlq] at hv1 hl hlen
      subst hv1
      have hl1 : (q : Int) < (lq : Int) := by omega
      have hl0 : (0 : Int) ≤ (q : Int) := by omega
      have hs0 := hsr.1
      have hs1 := hsr.2
      obtain ⟨lk, hlk⟩ : ∃ lk, K.length = lk := ⟨_, rfl⟩
      rw [hlk] at z0 hrw hK8
      have hrx : rowR (rchR X.F [p] q) (K.take lk) = rchR X.F [p] (q + 1) := by rw [hst, ← hlk, List.take_length]
      have isr : Rq w wr (.slice (some ⟨g1, o1, none⟩) lq cp1) (rowR (rchR X.F [p] q) (K.take 0)) bm (rowR (rchR X.F [p] q) (K.take 0)).length (rowR (rchR X.F [p] q) (K.take 0)) := is
      have hq2l := hid1 (show q + 1 ≤ (rchR X.F [p] (q + 1)).length by rw [hst]; have := rowR_le (rchR X.F [p] q) K; omega)
      clear okq hst is
      generalize hk2 : q + 1 = q2 at *
      generalize rchR X.F [p] q = l0 at *
      replace hk2 := hid1 hk2
      replace hrw := hid1 hrw
      replace hK := hid1 hK
      replace hlk := hid1 hlk
      replace hlq := hid1 hlq
      replace hs := hid1 hs
      replace hrx := hid1 hrx
      go_upto_region 6 with fail
      go_quiet (fail)
      go_upto_region 7 with fail
      replace isr := isr.below (drewN_below (Below.refl _ _) nq)
      generalize World.drewN _ _ = wr at *
      clear x6 xi z0
      go_loopw [5, 35] (fun u jv wr2 => ∃ (j : Nat), j ≤ lk ∧ jv = .int .i64 j ∧ Rq w wr2 u (rowR l0 (K.take j)) bm (rowR l0 (K.take j)).length (rowR l0 (K.take j))) (fun _ jv _ => lk - (intOf jv).toNat)
      case atStart => exact ⟨0, Nat.zero_le _, rfl, isr⟩
      case round =>
        clear isr
        obtain ⟨j, hj, rfl, is⟩ := hrel
        have okj := hRk.out j
        have hlj := okj.len
        rw [hnF.out] at hlj
        by_cases hlt : j < lk
        · have hj1 : (j : Int) < (lk : Int) := by omega
          have hj0 : (0 : Int) ≤ (j : Int) := by omega
          obtain ⟨x, hx⟩ : ∃ x, K[j]? = some x := ⟨_, List.getElem?_eq_getElem (by have := hlk.out; omega)⟩
          have hxr := hKf.out x (List.mem_of_getElem? hx)
          rw [hnF.out] at hxr
          have hst := rowR_take (l := l0) hx
          have e4 : IntKind.i64.wrap ((j : Int) + 1) = ((j + 1 : Nat) : Int) := by rw [IntKind.wrap_i64]; omega
          have hzr := (HM.out _ is.bel).row _ _ _ hK.out hrw.out
          obtain ⟨ar', cr', hrr, _, hner⟩ := hzr.form
          simp only [Value.slice.injEq] at hrr
          obtain ⟨rfl, -, rfl⟩ := hrr
          obtain ⟨g2, o2, rfl⟩ := hner (by intro e; rw [e] at hx; simp at hx)
          have xj := hzr.cell j (by have := hlk.out; omega)
          rw [List.getD_eq_getElem?_getD, hx, Option.getD_some] at xj
          have hxw : (Lit.int .i64 x).wf = true := by
            simp only [Lit.wf, Bool.and_eq_true, decide_eq_true_eq]
            exact ⟨show (-9223372036854775808 : Int) ≤ x by omega, show x ≤ 9223372036854775807 by omega⟩
          have lkx := is.mp.look hxw
          have is5 := is.below (alloc_below _ (.cells #[] 88))
          obtain ⟨ad1, cp1', hv1, _, _⟩ := is.own.form
          obtain ⟨l1, hl1'⟩ : ∃ l1, rowR l0 (K.take j) = l1 := ⟨_, rfl⟩
          rw [hl1'] at is is5 hst hlj lkx hv1 okj
          obtain ⟨l2, hl2⟩ : ∃ l2, rowR l0 (K.take (j + 1)) = l2 := ⟨_, rfl⟩
          rw [hl2] at hst
          generalize hk4 : j + 1 = j2 at *
          replace hk4 := hid1 hk4
          replace hl2 := hid1 hl2
          replace hx := hid1 hx
          replace hl1' := hid1 hl1'
          obtain ⟨q1, hq1⟩ : ∃ q1, l1.length = q1 := ⟨_, rfl⟩
          rw [hq1] at hv1
          replace hq1 := hid1 hq1
          subst hv1
          clear hzr hner
          by_cases hin : x ∈ l1
          · have e6 : Hid (l2 = l1) := hid1 (by rw [hst]; unfold addR; rw [if_pos (.inr hin)])
            rw [decide_eq_true hin] at lkx
            clear hst is hxr okj hlj
            go_wp2
            rw [← e6.out] at is5
            go_roundw
            case rel => exact ⟨j2, by have := hk4.out; omega, rfl, by rw [hl2.out]; exact is5⟩
            case measure => (have := hk4.out; simp [intOf]; omega)
          · rw [decide_eq_false hin] at lkx
            by_cases hm1 : x = -1
            · have e6 : Hid (l2 = l1) := hid1 (by rw [hst]; unfold addR; rw [if_pos (.inl hm1)])
              have f1 : (x == -1) = true := by simp [hm1]
              replace hm1 := hid1 hm1
              clear hst is hxr okj hlj
              go_wp2
              rw [← e6.out] at is5
              go_roundw
              case rel => exact ⟨j2, by have := hk4.out; omega, rfl, by rw [hl2.out]; exact is5⟩
              case measure => (have := hk4.out; simp [intOf]; omega)
            · have e6 : Hid (l2 = l1 ++ [x]) := hid1 (by rw [hst]; unfold addR; rw [if_neg (by intro z; rcases z with z | z; exact hm1 z; exact hin z)])
              have f1 : (x == -1) = false := by simp [hm1]
              obtain ⟨w6, hr6, m6, g6⟩ := is5.mp.add (by omega) hxw
              have is6 := is5.mark m6 g6
              have b7 := alloc_below w6 (.cells #[.int .i64 x] 3)
              have is7 := is6.below b7
              have n7 := new_obj w6 (.cells #[.int .i64 x] 3)
              replace hm1 := hid1 hm1
              have hlen7 := hid1 (show l1.length + [x].length ≤ 1000000 by simp only [List.length_cons, List.length_nil]; omega)
              clear hst is is5 hxr okj hlj m6 g6 is6 b7
              go_wp2_with (at_builtin; refine wpList_append_ints rfl _ _ rfl _ l1 [x] rfl is7.own ⟨_, 0, none⟩ 1 1 rfl rfl (by simp) (one_int n7) hlen7.out ?_; intro v8 w8 hz8 hg8 ho8; have is8 := is7.app hz8 hg8 ho8; clear is7 n7 hz8 hg8 ho8)
              have is9 : Rq w w8 v8 l2 bm l2.length l2 := by
                have e7 : l2.length = l1.length + 1 := by rw [e6.out]; simp
                rw [e7, e6.out]
                exact is8
              obtain ⟨ad8, cp8, hv8, _, _⟩ := is9.own.form
              generalize l2.length = q8 at hv8
              subst hv8
              go_wp2
              go_roundw
              case rel => exact ⟨j2, by have := hk4.out; omega, rfl, by rw [hl2.out]; exact is9⟩
              case measure => (have := hk4.out; simp [intOf]; omega)
        · obtain rfl : j = lk := by omega
          have hj1 : ¬ (j : Int) < (j : Int) := by omega
          rw [hrx.out] at is
          obtain ⟨ad1, cp1', hv1, _, _⟩ := is.own.form
          generalize (rchR X.F [p] q2).length = q8 at hv1
          subst hv1
          go_wp2
          go_roundw
          case rel => exact ⟨q2, by have h8 := hq2l.out; exact h8, rfl, is⟩
          case measure => (have := hk2.out; simp [intOf]; omega)
    · have e1 : (rchR X.F [p] q).length = q := by omega
      have hz := hid1 (hE.out q e1)
      obtain ⟨ad1, cp1, hv1, _, _⟩ := is.own.form
      rw [e1] at hv1
      subst hv1
      have hl1 : ¬ (q : Int) < (q : Int) := by omega
      replace e1 := hid1 e1
      go_wp2
      go_ret
      exact ⟨_, rfl, by rw [hz.out]; exact is.own, fun g hg => is.ob g hg, is.bel⟩
end Go.Proofs.Ytecppcakgfohbab
