/- The reference's named, at and Unpack of layer 13; a list appended to a list. -/
import Derived.Test.YtcioomopgdhlmaaGreatDoorCFb
import Derived.Test.YtcioomopgdhlmaaGreatDoorBGray
import Derived.BigQuiet
import Derived.Deep.Upon
import Derived.Deep.RegionHeld3
namespace Go.Proofs.YtcioomopgdhlmaaGreatDoor
open Go.RowKit
open Mm (IsMem MS touched Only IsWords)
open Hh (WT okW wordOf IsHd)

set_option maxHeartbeats 1000000 in
theorem rnamed_any {K : Cf} (hK : K.Ok) {W : Nat} (hW : W < 18446744073709551616) (w : World) :
    Calls Tryz.prog 62 #[.agg K.cs, .int .u64 (W : Nat)] w fun e w' => e = .returned (.int .i64 (K.nm W)) ∧ Below w.heap.size w w' := by
  have bel := alloc_below w (.cells #[.int .i64 (K.S : Nat), .int .i64 K.a, .int .i64 (K.C : Nat), .int .i64 (K.D : Nat), .int .i64 K.g, .int .i64 K.k] 23)
  have h64 := hK.s64
  unfold Cf.cs at *
  have e0 : IntKind.u64.wrap (K.S : Int) = (K.S : Int) := by rw [IntKind.wrap_u64]; omega
  by_cases hz : W = 0
  · subst hz
    have e : K.nm 0 = -1 := by unfold Cf.nm; rw [if_neg (by omega)]; rfl
    rw [e]
    clear e h64 hW
    go_enter Tryz.func62, Tryz.ntmps62
    go_wp2
    go_ret
    exact ⟨rfl, bel⟩
  have hz1 : ((W : Int) == 0) = false := by simp; omega
  by_cases hc : K.S < W
  · have e : K.nm W = -1 := by unfold Cf.nm; rw [if_pos hc]
    rw [e]
    have hc1 : (K.S : Int) < (W : Int) := by omega
    have hc2 : decide ((K.S : Int) < (W : Int)) = true := decide_eq_true hc1
    clear hc e hW h64 hz
    go_enter Tryz.func62, Tryz.ntmps62
    go_wp2
    go_ret
    exact ⟨rfl, bel⟩
  · have e : K.nm W = (W : Int) - 1 := by unfold Cf.nm; rw [if_neg hc]
    rw [e]
    have hc1 : ¬ (K.S : Int) < (W : Int) := by omega
    have hc2 : decide ((K.S : Int) < (W : Int)) = false := decide_eq_false hc1
    have e1 : IntKind.i64.wrap (W : Int) = (W : Int) := by rw [IntKind.wrap_i64]; omega
    have e2 : wrap64 ((W : Int) - 1) = (W : Int) - 1 := by unfold wrap64; omega
    clear hc e hW h64 hz
    go_enter Tryz.func62, Tryz.ntmps62
    go_wp2
    go_ret
    exact ⟨rfl, bel⟩

/-- A word beyond the body. -/
theorem rbody_no {K : Cf} (hK : K.Ok) (s i : Nat) (hi : K.B ≤ i) (w : World) :
    Calls Tryz.prog 38 #[.agg K.cs, .agg #[.string ⟨#[98, 111, 100, 121]⟩, .int .i64 (s : Nat), .int .i64 (i : Nat)]] w fun e w' => e = .returned (.int .i64 (-1)) ∧ Below w.heap.size w w' :=
  at_no hK.r hK.b hK.b8 10 s i (by omega) (fun p hp h1 h2 h3 => by
    rcases wat_b hK.d1 hp with h | h | h | h | h
    · omega
    · omega
    · omega
    · omega
    · omega) w
set_option maxHeartbeats 2000000 in
theorem at13_no {K : Cf} (hK : K.Ok) (s i : Nat) (hi : K.B ≤ i) (v : Value) (w : World) :
    Calls Tryz.prog 29 #[.agg (cs K.S K.a K.C K.D K.g K.k), v, .string ⟨#[98, 111, 100, 121]⟩, .int .i64 (s : Nat), .int .i64 (i : Nat)] w fun e w' => e = .returned (.int .u64 0) ∧ Below w.heap.size w w' := by
  have c1 := fun w => rbody_no hK s i hi w
  have bel := alloc_below w (.cells #[.int .i64 (K.S : Nat), .int .i64 K.a, .int .i64 (K.C : Nat), .int .i64 (K.D : Nat), .int .i64 K.g, .int .i64 K.k] 23)
  have hh := cfg_new w K.S K.a K.C K.D K.g K.k
  clear hi
  go_enter Tryz.func29, Tryz.ntmps29
  go_upto_region 1 with fail
  generalize w.alloc (.cells #[.int .i64 (K.S : Nat), .int .i64 K.a, .int .i64 (K.C : Nat), .int .i64 (K.D : Nat), .int .i64 K.g, .int .i64 K.k] 23) = w0 at *
  obtain ⟨l0, l1, l2, l3, l4, l5⟩ := hh.cells
  go_wp2_with (go_at_call 38; with_reducible refine (c1 _).mono ?_; rintro e w1 ⟨rfl, hb⟩; replace bel := seq_below bel hb; clear l0 l1 l2 l3 l4 l5)
  go_ret
  exact ⟨rfl, bel⟩

theorem runp_any {W : Nat} (hW : W < 18446744073709551616) (w : World) :
    Calls Tryz.prog 28 #[.int .u64 (W : Nat)] w fun r w' => (∃ (m : Int) (n s : Int), r = .returned (.tuple #[.agg #[.int .i64 (knW W : Nat), .int .i64 m, .bool (grayW W), .int .i64 (arW W : Nat), .int .i64 n, .int .i64 s], .bool (okW W)])) ∧ Below w.heap.size w w' := by
  unfold knW arW
  cases hok : okW W
  · have e : grayW W = false := by unfold grayW; rw [hok]; rfl
    rw [e]
    exact (Hh.runpack_bad hW hok w).mono fun r w' ⟨hr, hb⟩ => ⟨⟨_, _, _, hr⟩, hb⟩
  · obtain ⟨K, M, g, A, N, S, h1, rfl⟩ := Hh.okW_parts hW hok
    obtain ⟨p0, p1, p2, p3, _⟩ := Hh.word_parts g h1
    have e := gray_word g h1
    rw [hok] at e
    rw [if_pos rfl, if_pos rfl, p0, p3, ← e]
    exact (Hh.runpack_word g h1 w).mono fun r w' ⟨hr, hb⟩ => ⟨⟨(M : Nat), (N : Nat), (S : Nat), by rw [hr, Bool.true_and]⟩, hb⟩

/-- What is not below 0. -/
def nn (L : List Int) : List Int := L.filter fun x => decide (0 ≤ x)
theorem nn_app (L L' : List Int) : nn (L ++ L') = nn L ++ nn L' := by unfold nn; rw [List.filter_append]
theorem nn_yes {x : Int} (h : 0 ≤ x) : nn [x] = [x] := by simp [nn, h]
theorem nn_no {x : Int} (h : ¬ 0 ≤ x) : nn [x] = [] := by simp [nn]; omega
theorem nn_mem {L : List Int} {x : Int} : x ∈ nn L ↔ x ∈ L ∧ 0 ≤ x := by simp [nn]
theorem nn_len (L : List Int) : (nn L).length ≤ L.length := List.length_filter_le _ _

/-- A list appended to a list, be it empty or not. -/
theorem run_append_zs {w : World} {v vy : Value} {xs ys : List Int} (hI : IsZ w v xs) (hY : IsZ w vy ys) (ty : TypeId) (hl : xs.length + ys.length ≤ 1000000) :
    ∃ v' w', (Builtin.append_ #[45, 45] ty #[v, vy]).run Tryz.prog w = .ok v' w' ∧ IsZ w' v' (xs ++ ys) ∧ w.grownBy w' v.ownBlock ∧ (v'.ownBlock = v.ownBlock ∨ ∃ g, v'.ownBlock = some g ∧ w.heap.size ≤ g) := by
  obtain ⟨ady, cy, hvy, hcy, hay⟩ := hY.form
  obtain ⟨adx, cx, hvx, hcx, hax⟩ := hI.form
  by_cases hy : ys = []
  · subst hy
    subst hvy hvx
    obtain ⟨i0, hi, hz0, hz1, hz2⟩ := info_parts Tryz.info3
    have hsrc : Src Tryz.prog i0.size 45 (.slice ady 0 cy) 0 [] w := by
      cases ady with
      | none => exact Src.ofNil w Tryz.underlying45 cy
      | some a => exact Src.ofSlice w Tryz.underlying45 a 0 cy [] (by simp) (fun j u h => by simp at h) (fun u h => by simp at h)
    refine ⟨_, w, run_append_nothing w 45 45 ty 3 i0 Tryz.underlying45 hi adx xs.length cx hcx _ hsrc, ?_, ⟨rfl, rfl, rfl, Nat.le_refl _, fun _ _ _ => rfl⟩, .inl rfl⟩
    rw [List.append_nil]
    exact hI
  · obtain ⟨g, off, rfl⟩ := hay hy
    subst hvy
    exact run_append_ints hI ty ⟨g, off, none⟩ cy hy (fun j u h => by
      have hj : j < ys.length := by rw [← ints_len ys]; exact (List.getElem?_eq_some_iff.1 h).1
      rw [ints_get ys j hj] at h
      rw [add_none]
      rw [hY.cell j hj]
      exact h) hl
/-- The same for the walk. -/
theorem wpList_append_zs {w : World} {ops : Array Oper} {rest : List Oper} {o : Oper} {a : Act} {Q : Exit → Act → World → Prop} (hgd : o.guard = none) (s x : Operand)
    (ho : o.op = .call { callee := .builtin .append, args := #[s, x], argTypes := #[45, 45] })
    (v vy : Value) (xs ys : List Int) (hs : a.eval s = v) (hI : IsZ w v xs) (hx : a.eval x = vy) (hY : IsZ w vy ys) (hl : xs.length + ys.length ≤ 1000000)
    (h : ∀ v' w', IsZ w' v' (xs ++ ys) → w.grownBy w' v.ownBlock → (v'.ownBlock = v.ownBlock ∨ ∃ g, v'.ownBlock = some g ∧ w.heap.size ≤ g) → wpList Tryz.prog ops Q rest (a.put o.dst v') w') : wpList Tryz.prog ops Q (o :: rest) a w := by
  refine wpList_plain hgd fun K hK => ?_
  obtain ⟨v', w', hr, h2, h3, h4⟩ := run_append_zs hI hY o.type hl
  unfold Oper.wp execOp
  simp only [ho, resolve, invoke, builtin, Sem.run_bind, Sem.run_pure, Result.andThen_ok, List.map_toArray, List.map_cons, List.map_nil, hs, hx, hr]
  exact hK _ _ (h v' w' h2 h3 h4)
/-- The same at a step of a region that draws its order. -/
theorem step_append_zs {w : World} {ops : Array Oper} {o : Oper} {a : Act} {K : Act → World → Prop} {Q : Exit → Act → World → Prop} {E : Prop} (hgd : o.guard = none) (s x : Operand)
    (ho : o.op = .call { callee := .builtin .append, args := #[s, x], argTypes := #[45, 45] })
    (v vy : Value) (xs ys : List Int) (hs : a.eval s = v) (hI : IsZ w v xs) (hx : a.eval x = vy) (hY : IsZ w vy ys) (hl : xs.length + ys.length ≤ 1000000)
    (h : ∀ v' w', IsZ w' v' (xs ++ ys) → w.grownBy w' v.ownBlock → (v'.ownBlock = v.ownBlock ∨ ∃ g, v'.ownBlock = some g ∧ w.heap.size ≤ g) → K (a.put o.dst v') w') :
    if Region.wanted o (yielded ops a.tmps) = true then Oper.wp Tryz.prog o a w K Q else E := by
  have hw : Region.wanted o (yielded ops a.tmps) = true := by simp [Region.wanted, hgd]
  rw [if_pos hw]
  obtain ⟨v', w', hr, h2, h3, h4⟩ := run_append_zs hI hY o.type hl
  unfold Oper.wp execOp
  simp only [ho, resolve, invoke, builtin, Sem.run_bind, Sem.run_pure, Result.andThen_ok, List.map_toArray, List.map_cons, List.map_nil, hs, hx, hr]
  exact h v' w' h2 h3 h4
end Go.Proofs.YtcioomopgdhlmaaGreatDoor
/- The reference's Roots. -/
namespace Go.Proofs.YtcioomopgdhlmaaGreatDoor
open Go.RowKit
open Mm (IsMem MS touched Only IsWords)
open Hh (WT okW wordOf IsHd)

theorem in_b {f : Nat} {args : Array Value} {v : Value} (c : ∀ w, Calls Tryz.prog f args w fun e w' => e = .returned v ∧ Below w.heap.size w w') {B : Nat} {w00 w0 : World} (_ : Below B w00 w0) : ∀ w', Below w0.heap.size w0 w' → Calls Tryz.prog f args w' fun e w'' => e = .returned v ∧ Below w0.heap.size w0 w'' :=
  fun w' hw' => (c w').mono fun _ _ ⟨he, hb⟩ => ⟨he, seq_below hw' hb⟩
theorem in_r {f : Nat} {args : Array Value} {v : Value} {b off : Nat} {X : List Nat} {w0 : World} (hR : RdW w0 b off X) (c : ∀ w, RdW w b off X → Calls Tryz.prog f args w fun e w' => e = .returned v ∧ Below w.heap.size w w') : ∀ w', Below w0.heap.size w0 w' → Calls Tryz.prog f args w' fun e w'' => e = .returned v ∧ Below w0.heap.size w0 w'' :=
  fun w' hw' => (c w' (hR.below hw')).mono fun _ _ ⟨he, hb⟩ => ⟨he, seq_below hw' hb⟩

set_option maxRecDepth 100000 in
set_option maxHeartbeats 16000000 in
theorem rroots_any {w : World} {K : Cf} (hK : K.Ok) {b off cap : Nat} {X : List Nat} (hR : RdW w b off X) (hX : X.length = K.N) (hlt : ∀ i, X.getD i 0 < 18446744073709551616) :
    Calls Tryz.prog 31 #[.agg K.cs, .slice (some ⟨b, off, none⟩) K.N cap] w fun r w' => ∃ v, r = .returned v ∧ IsZ w' v (nn (rtL K X K.C)) ∧ (∀ g, v.ownBlock = some g → w.heap.size ≤ g) ∧ Below w.heap.size w w' := by
  have hN := hK.N_b
  have hc8 := hK.c8
  have hd16 := hK.d16
  have is0 : Rv w (w.alloc (.cells #[.int .i64 (K.S : Nat), .int .i64 K.a, .int .i64 (K.C : Nat), .int .i64 (K.D : Nat), .int .i64 K.g, .int .i64 K.k] 23)) K w.heap.size (.slice none 0 0) (nn (rtL K X 0)) := ⟨cfg_new w K.S K.a K.C K.D K.g K.k, IsZ.nil _, (fun g hg => by cases hg), alloc_below _ _⟩
  have CE := hid1 (fun (k i : Nat) (hk : k < K.C) (hi : i < K.D) => (⟨fun w (hr : RdW w b off X) => at13_yes (cap := cap) hK 5 k i (by omega) (K.en_lt hk hi) (wat_entry K.C K.D K.B k i hk hi) hX hr, fun w => rnamed_any hK (W := X.getD (K.en k i) 0 % 4294967296) (by omega) w⟩ : _ ∧ _))
  have CS := hid1 (fun (k : Nat) (hk : k < K.C) => (⟨fun w (hr : RdW w b off X) => at13_yes (cap := cap) hK 7 k 0 (by omega) (K.st_lt hk) (wat_start K.C K.D K.B k hk) hX hr, fun w => rnamed_any hK (hlt (K.st k)) w⟩ : _ ∧ _))
  have HR := hid1 (fun (wq : World) (h : Below w.heap.size w wq) => hR.below h)
  clear hR hlt hX hK
  unfold Cf.cs at *
  unfold cs at *
  go_enter Tryz.func31, Tryz.ntmps31
  obtain ⟨x0, x1, x2, x3, x4, x5⟩ := is0.cfg.cells
  go_upto_region 3 with fail
  clear x0 x1 x2 x3 x4 x5
  generalize hw0 : w.alloc (.cells #[.int .i64 (K.S : Nat), .int .i64 K.a, .int .i64 (K.C : Nat), .int .i64 (K.D : Nat), .int .i64 K.g, .int .i64 K.k] 23) = w0 at *
  generalize hbc : w.heap.size = bc at is0 ⊢
  replace hbc := hid1 hbc
  clear hw0
  go_loopw [5, 6] (fun l i wr => ∃ (k : Nat), k ≤ K.C ∧ i = .int .i64 k ∧ Rv w wr K bc l (nn (rtL K X k))) (fun _ i _ => K.C - (intOf i).toNat)
  case atStart => exact ⟨0, Nat.zero_le _, rfl, is0⟩
  case round =>
    clear is0
    obtain ⟨k1, hk, rfl, is⟩ := hrel
    by_cases hl : k1 < K.C
    · have hl1 : (k1 : Int) < (K.C : Int) := by omega
      obtain ⟨x0, x1, x2, x3, x4, x5⟩ := is.cfg.cells
      have ez : rtL K X k1 = rtL K X k1 ++ enL K X k1 0 := by simp [enL]
      rw [ez] at is
      clear ez
      go_upto_region 6 with fail
      clear x0 x1 x2 x3 x4 x5
      go_loopw [5, 7] (fun l i wr => ∃ (n : Nat), n ≤ K.D ∧ i = .int .i64 n ∧ Rv w wr K bc l (nn (rtL K X k1 ++ enL K X k1 n))) (fun _ i _ => K.D - (intOf i).toNat)
      case atStart => exact ⟨0, Nat.zero_le _, rfl, is⟩
      case round =>
        clear is
        obtain ⟨n1, hn, rfl, is⟩ := hrel
        have hlen : ∀ y : Int, (nn (rtL K X k1 ++ enL K X k1 n1)).length + [y].length ≤ 1000000 := by
          intro y
          have h0 := nn_len (rtL K X k1 ++ enL K X k1 n1)
          rw [List.length_append, rtL_len, enL_len] at h0
          have : k1 * (K.D + 1) ≤ 8 * 17 := Nat.mul_le_mul (by omega) (by omega)
          simp only [List.length_singleton]
          omega
        by_cases hd : n1 < K.D
        · have hd1 : (n1 : Int) < (K.D : Int) := by omega
          obtain ⟨c29, c62⟩ := CE.out k1 n1 hl hd
          replace c29 : ∀ wr, RdW wr b off X → Calls Tryz.prog 29 #[.agg #[.int .i64 (K.S : Nat), .int .i64 K.a, .int .i64 (K.C : Nat), .int .i64 (K.D : Nat), .int .i64 K.g, .int .i64 K.k], .slice (some ⟨b, off, none⟩) K.N cap, .string ⟨#[101, 110, 116, 114, 121]⟩, .int .i64 (k1 : Nat), .int .i64 (n1 : Nat)] wr fun e w' => e = .returned (.int .u64 (X.getD (K.en k1 n1) 0 : Nat)) ∧ Below wr.heap.size wr w' := c29
          have hnx : nn (rtL K X k1 ++ enL K X k1 n1) ++ nn [K.nm (X.getD (K.en k1 n1) 0 % 4294967296)] = nn (rtL K X k1 ++ enL K X k1 (n1 + 1)) := by rw [← nn_app, List.append_assoc, enL_succ]
          have e3 : IntKind.i64.wrap ((n1 : Int) + 1) = ((n1 + 1 : Nat) : Int) := by rw [IntKind.wrap_i64]; omega
          generalize hn2 : n1 + 1 = n2 at *
          generalize nn (rtL K X k1 ++ enL K X k1 n1) = F at *
          generalize X.getD (K.en k1 n1) 0 = W at *
          have eW : ((W : Int) % 4294967296) = ((W % 4294967296 : Nat) : Int) := by omega
          generalize W % 4294967296 = V at *
          generalize K.nm V = y at *
          replace hlen := hid1 (hlen y)
          replace hnx := hid1 hnx
          obtain ⟨x0, x1, x2, x3, x4, x5⟩ := is.cfg.cells
          obtain ⟨ad, cp, hv, _⟩ := is.own.form
          generalize F.length = q at hv
          subst hv
          go_upto_region 8 with fail
          clear x0 x1 x2 x3 x4 x5
          have ec29 := in_r (HR.out _ is.bel) c29
          have ec62 := in_b c62 is.bel
          have e2 := fun (w' : World) (hw' : Below _ _ w') => (is.cfg.below hw').cells
          refine region_below (by kernel_rfl) (by kernel_rfl) ?_
          repeat (first | go_big_quiet_skip | (go_big_quiet_want; go_big_quiet_op; first | go_big_quiet_on | (refine ⟨_, fun _ _ => rfl, ?_⟩; go_big_quiet_on) | (with_reducible refine ⟨_, ec29, ?_⟩; go_big_quiet_on) | (with_reducible refine ⟨_, ec62, ?_⟩; go_big_quiet_on) | (refine ⟨.agg #[.int .i64 (K.S : Nat), .int .i64 K.a, .int .i64 (K.C : Nat), .int .i64 (K.D : Nat), .int .i64 K.g, .int .i64 K.k], ?_, ?_⟩; (focus (intro w' hw'; obtain ⟨l0, l1, l2, l3, l4, l5⟩ := e2 w' hw'; simp [l0, l1, l2, l3, l4, l5, Result.andThen]; done)); go_big_quiet_on) | (refine ⟨.int .u64 (V : Nat), ?_, ?_⟩; (focus (intro w' hw'; simp [go_sem, eW, Result.andThen]; done)); go_big_quiet_on)))
          refine wpQuiet_nil ?_
          intro w8 hb8
          replace is := is.below hb8
          clear hb8 e2 ec29 ec62 c29 c62 eW
          by_cases hy : 0 ≤ y
          · rw [nn_yes hy] at hnx
            go_wp2_with (at_builtin; refine wpList_append_ints rfl _ _ rfl _ F [y] rfl (is.below (alloc_below _ (.cells #[.int .i64 y] 3))).own ⟨_, 0, none⟩ 1 1 rfl rfl (by simp) (one_new _ _ _) hlen.out ?_; intro v' w8 hI hg hp; replace is := (is.below (alloc_below _ (.cells #[.int .i64 y] 3))).grow hI hg hp; clear hI hg hp; obtain ⟨ad', cp', hv', _⟩ := is.own.form; generalize (F ++ [y]).length = q' at hv'; subst hv')
            rw [hnx.out] at is
            go_roundw
            case rel => exact ⟨n2, by omega, rfl, is⟩
            case measure => simp [intOf]; omega
          · rw [nn_no hy, List.append_nil] at hnx
            rw [hnx.out] at is
            go_wp2
            go_roundw
            case rel => exact ⟨n2, by omega, rfl, is⟩
            case measure => simp [intOf]; omega
        · obtain rfl : n1 = K.D := by omega
          have hd1 : ¬ (K.D : Int) < (K.D : Int) := by omega
          obtain ⟨c29, c62⟩ := CS.out k1 hl
          replace c29 : ∀ wr, RdW wr b off X → Calls Tryz.prog 29 #[.agg #[.int .i64 (K.S : Nat), .int .i64 K.a, .int .i64 (K.C : Nat), .int .i64 (K.D : Nat), .int .i64 K.g, .int .i64 K.k], .slice (some ⟨b, off, none⟩) K.N cap, .string ⟨#[115, 116, 97, 114, 116]⟩, .int .i64 (k1 : Nat), .int .i64 0] wr fun e w' => e = .returned (.int .u64 (X.getD (K.st k1) 0 : Nat)) ∧ Below wr.heap.size wr w' := c29
          have hnx : nn (rtL K X k1 ++ enL K X k1 K.D) ++ nn [K.nm (X.getD (K.st k1) 0)] = nn (rtL K X (k1 + 1)) := by rw [← nn_app]; rfl
          have e3 : IntKind.i64.wrap ((k1 : Int) + 1) = ((k1 + 1 : Nat) : Int) := by rw [IntKind.wrap_i64]; omega
          generalize hk2 : k1 + 1 = k2 at *
          generalize nn (rtL K X k1 ++ enL K X k1 K.D) = F at *
          generalize X.getD (K.st k1) 0 = W at *
          generalize K.nm W = y at *
          replace hlen := hid1 (hlen y)
          replace hnx := hid1 hnx
          obtain ⟨x0, x1, x2, x3, x4, x5⟩ := is.cfg.cells
          obtain ⟨ad, cp, hv, _⟩ := is.own.form
          generalize F.length = q at hv
          subst hv
          go_upto_region 11 with fail
          clear x0 x1 x2 x3 x4 x5
          have ec29 := in_r (HR.out _ is.bel) c29
          have ec62 := in_b c62 is.bel
          have e2 := fun (w' : World) (hw' : Below _ _ w') => (is.cfg.below hw').cells
          refine region_below (by kernel_rfl) (by kernel_rfl) ?_
          repeat (first | go_big_quiet_skip | (go_big_quiet_want; go_big_quiet_op; first | go_big_quiet_on | (refine ⟨_, fun _ _ => rfl, ?_⟩; go_big_quiet_on) | (with_reducible refine ⟨_, ec29, ?_⟩; go_big_quiet_on) | (with_reducible refine ⟨_, ec62, ?_⟩; go_big_quiet_on) | (refine ⟨.agg #[.int .i64 (K.S : Nat), .int .i64 K.a, .int .i64 (K.C : Nat), .int .i64 (K.D : Nat), .int .i64 K.g, .int .i64 K.k], ?_, ?_⟩; (focus (intro w' hw'; obtain ⟨l0, l1, l2, l3, l4, l5⟩ := e2 w' hw'; simp [l0, l1, l2, l3, l4, l5, Result.andThen]; done)); go_big_quiet_on)))
          refine wpQuiet_nil ?_
          intro w8 hb8
          replace is := is.below hb8
          clear hb8 e2 ec29 ec62 c29 c62
          by_cases hy : 0 ≤ y
          · rw [nn_yes hy] at hnx
            go_wp2_with (at_builtin; refine wpList_append_ints rfl _ _ rfl _ F [y] rfl (is.below (alloc_below _ (.cells #[.int .i64 y] 3))).own ⟨_, 0, none⟩ 1 1 rfl rfl (by simp) (one_new _ _ _) hlen.out ?_; intro v' w8 hI hg hp; replace is := (is.below (alloc_below _ (.cells #[.int .i64 y] 3))).grow hI hg hp; clear hI hg hp; obtain ⟨ad', cp', hv', _⟩ := is.own.form; generalize (F ++ [y]).length = q' at hv'; subst hv')
            rw [hnx.out] at is
            go_roundw
            case rel => exact ⟨k2, by omega, rfl, is⟩
            case measure => simp [intOf]; omega
          · rw [nn_no hy, List.append_nil] at hnx
            rw [hnx.out] at is
            go_wp2
            go_roundw
            case rel => exact ⟨k2, by omega, rfl, is⟩
            case measure => simp [intOf]; omega
    · obtain rfl : k1 = K.C := by omega
      have hl1 : ¬ (K.C : Int) < (K.C : Int) := by omega
      obtain ⟨x0, x1, x2, x3, x4, x5⟩ := is.cfg.cells
      obtain ⟨ad, cp, hv, _⟩ := is.own.form
      generalize (nn (rtL K X K.C)).length = q at hv
      subst hv
      clear CE CS
      go_wp2
      go_ret
      have hb := hbc.out
      clear hbc
      subst hb
      exact ⟨_, rfl, is.own, is.og, is.bel⟩
end Go.Proofs.YtcioomopgdhlmaaGreatDoor
/- The reference's Names. -/
namespace Go.Proofs.YtcioomopgdhlmaaGreatDoor
open Go.RowKit
open Mm (IsMem MS touched Only IsWords)
open Hh (WT okW wordOf IsHd)

/-- Is a word of a body a field, by its header? -/
def fdB (k a i : Nat) : Bool := decide (k = 1) && decide (i < a) || decide (k = 2) && (decide (i = 0) || decide (i = 2))
def rnW (K : Cf) (X : List Nat) (s i : Nat) : Nat := if i < K.B then X.getD (K.bd s i) 0 else 0
/-- What Names tells, as far as it is. -/
def rnL (K : Cf) (X : List Nat) (s k a : Nat) : Nat → List Int
  | 0 => []
  | n + 1 => rnL K X s k a n ++ (if fdB k a n = true then nn [K.nm (rnW K X s n)] else [])
theorem rnL_len (K : Cf) (X : List Nat) (s k a : Nat) : ∀ n, (rnL K X s k a n).length ≤ n
  | 0 => Nat.le_refl _
  | n + 1 => by
    have h := rnL_len K X s k a n
    have h2 := nn_len [K.nm (rnW K X s n)]
    simp only [List.length_singleton] at h2
    unfold rnL
    rw [List.length_append]
    split
    · omega
    · simp only [List.length_nil]; omega
theorem rnL_mem (K : Cf) (X : List Nat) (s k a : Nat) {x : Int} : ∀ n, x ∈ rnL K X s k a n ↔ ∃ i, i < n ∧ fdB k a i = true ∧ x = K.nm (rnW K X s i) ∧ 0 ≤ x
  | 0 => by simp [rnL]
  | n + 1 => by
    have h := rnL_mem K X s k a (x := x) n
    unfold rnL
    rw [List.mem_append, h]
    constructor
    · rintro (⟨i, h1, h2⟩ | h1)
      · exact ⟨i, by omega, h2⟩
      · split at h1
        · rename_i hf
          rw [nn_mem, List.mem_singleton] at h1
          exact ⟨n, by omega, hf, h1.1, h1.2⟩
        · cases h1
    · rintro ⟨i, h1, h2, h3, h4⟩
      by_cases e : i = n
      · subst e
        right
        rw [if_pos h2, nn_mem, List.mem_singleton]
        exact ⟨h3, h4⟩
      · exact .inl ⟨i, by omega, h2, h3, h4⟩
theorem nm_zero (K : Cf) : K.nm 0 = -1 := by unfold Cf.nm; rw [if_neg (by omega)]; rfl
/-- It tells what the program's names does. -/
theorem rnL_nm {K : Cf} (hB : 3 ≤ K.B) (hB8 : K.B ≤ 8) (X : List Nat) (s : Nat) {x : Int} : x ∈ rnL K X s (knW (X.getD (K.hd s) 0)) (arW (X.getD (K.hd s) 0)) 15 ↔ x ∈ nmL K X s ∧ 0 ≤ x := by
  have har := arW_lt (X.getD (K.hd s) 0)
  rw [rnL_mem]
  unfold nmL fdB
  generalize knW (X.getD (K.hd s) 0) = k
  generalize arW (X.getD (K.hd s) 0) = a at *
  constructor
  · rintro ⟨i, h1, h2, h3, h4⟩
    refine ⟨?_, h4⟩
    have hi : i < K.B := by
      unfold rnW at h3
      by_cases hi : i < K.B
      · exact hi
      · rw [if_neg hi, nm_zero] at h3; omega
    unfold rnW at h3
    rw [if_pos hi] at h3
    simp only [Bool.or_eq_true, Bool.and_eq_true, decide_eq_true_eq] at h2
    rcases h2 with ⟨h5, h6⟩ | ⟨h5, h6⟩
    · rw [if_pos h5, List.mem_map]
      exact ⟨i, by rw [List.mem_range]; unfold Cf.fl; omega, h3.symm⟩
    · rw [if_neg (by omega), if_pos h5]
      rcases h6 with rfl | rfl
      · simp [h3]
      · simp [h3]
  · rintro ⟨h1, h4⟩
    split at h1
    · rename_i h5
      rw [List.mem_map] at h1
      obtain ⟨i, h2, h3⟩ := h1
      rw [List.mem_range] at h2
      unfold Cf.fl at h2
      refine ⟨i, by omega, ?_, ?_, h4⟩
      · simp only [Bool.or_eq_true, Bool.and_eq_true, decide_eq_true_eq]; exact .inl ⟨h5, by omega⟩
      · unfold rnW; rw [if_pos (by omega)]; exact h3.symm
    · split at h1
      · rename_i h5
        simp only [List.mem_cons, List.not_mem_nil, or_false] at h1
        rcases h1 with h1 | h1
        · exact ⟨0, by omega, by simp [h5], by unfold rnW; rw [if_pos (by omega)]; exact h1, h4⟩
        · exact ⟨2, by omega, by simp [h5], by unfold rnW; rw [if_pos (by omega)]; exact h1, h4⟩
      · cases h1

theorem fd_cases (k a i : Nat) : (k = 1 ∧ i < a) ∨ (k = 1 ∧ ¬ i < a) ∨ (k = 2 ∧ i = 0) ∨ (k = 2 ∧ i = 2) ∨ (k = 2 ∧ i ≠ 0 ∧ i ≠ 2) ∨ (k ≠ 1 ∧ k ≠ 2) := by omega

/-- What Names knows of the world. -/
structure Rn (w wr : World) (K : Cf) (bc bh : Nat) (k a : Int) (v : Value) (F : List Int) : Prop where
  rv : Rv w wr K bc v F
  hd : ∃ (m n s : Int) (g : Bool), wr.heap[bh]? = some (.cells #[.int .i64 k, .int .i64 m, .bool g, .int .i64 a, .int .i64 n, .int .i64 s] 57 (0, 0))
theorem Rn.below {w wr w' : World} {K : Cf} {bc bh : Nat} {k a : Int} {v : Value} {F : List Int} (h : Rn w wr K bc bh k a v F) (b : Below wr.heap.size wr w') : Rn w w' K bc bh k a v F :=
  ⟨h.rv.below b, by obtain ⟨m, n, s, g, h2⟩ := h.hd; exact ⟨m, n, s, g, (b.block _ (lt_of_block h2)).trans h2⟩⟩
theorem Rn.grow {w wr w2 : World} {K : Cf} {bc bh : Nat} {k a : Int} {v v' : Value} {F F' : List Int} (h : Rn w wr K bc bh k a v F) (hI : IsZ w2 v' F') (g : wr.grownBy w2 v.ownBlock) (hp : v'.ownBlock = v.ownBlock ∨ ∃ g, v'.ownBlock = some g ∧ wr.heap.size ≤ g) : Rn w w2 K bc bh k a v' F' :=
  ⟨h.rv.grow hI g hp, by obtain ⟨m, n, s, g', h2⟩ := h.hd; exact ⟨m, n, s, g', (g.block _ (lt_of_block h2) (fun e => h.rv.own.apart h2 (by decide) e.symm)).trans h2⟩⟩
theorem Rn.cells {w wr : World} {K : Cf} {bc bh : Nat} {k a : Int} {v : Value} {F : List Int} (h : Rn w wr K bc bh k a v F) : wr.cell? ⟨bh, 0, none⟩ = some (.int .i64 k) ∧ wr.cell? ⟨bh, 3, none⟩ = some (.int .i64 a) := by
  obtain ⟨m, n, s, g, h2⟩ := h.hd
  exact ⟨by simp [World.cell?, h2], by simp [World.cell?, h2]⟩

set_option maxRecDepth 100000 in
set_option maxHeartbeats 16000000 in
theorem rnames_any {w : World} {K : Cf} (hK : K.Ok) {b off cap s : Nat} {X : List Nat} (hR : RdW w b off X) (hX : X.length = K.N) (hlt : ∀ i, X.getD i 0 < 18446744073709551616) (hs : s < K.S) :
    Calls Tryz.prog 32 #[.agg K.cs, .slice (some ⟨b, off, none⟩) K.N cap, .int .i64 (s : Nat)] w fun r w' => ∃ v, r = .returned v ∧ IsZ w' v (rnL K X s (knW (X.getD (K.hd s) 0)) (arW (X.getD (K.hd s) 0)) 15) ∧ (∀ g, v.ownBlock = some g → w.heap.size ≤ g) ∧ Below w.heap.size w w' := by
  have is0 : Rv w (w.alloc (.cells #[.int .i64 (K.S : Nat), .int .i64 K.a, .int .i64 (K.C : Nat), .int .i64 (K.D : Nat), .int .i64 K.g, .int .i64 K.k] 23)) K w.heap.size (.slice none 0 0) [] := ⟨cfg_new w K.S K.a K.C K.D K.g K.k, IsZ.nil _, (fun g hg => by cases hg), alloc_below _ _⟩
  have ch : ∀ wr, RdW wr b off X → Calls Tryz.prog 29 #[.agg #[.int .i64 (K.S : Nat), .int .i64 K.a, .int .i64 (K.C : Nat), .int .i64 (K.D : Nat), .int .i64 K.g, .int .i64 K.k], .slice (some ⟨b, off, none⟩) K.N cap, .string ⟨#[104, 101, 97, 100, 101, 114]⟩, .int .i64 (s : Nat), .int .i64 0] wr fun e w' => e = .returned (.int .u64 (X.getD (K.hd s) 0 : Nat)) ∧ Below wr.heap.size wr w' := fun wr h => at13_yes hK 8 s 0 (by omega) (K.hd_lt hs) (wat_header K.C K.D K.B s) hX h
  have cu := runp_any (hlt (K.hd s))
  have CB : ∀ i : Nat, ∀ wr, RdW wr b off X → Calls Tryz.prog 29 #[.agg #[.int .i64 (K.S : Nat), .int .i64 K.a, .int .i64 (K.C : Nat), .int .i64 (K.D : Nat), .int .i64 K.g, .int .i64 K.k], .slice (some ⟨b, off, none⟩) K.N cap, .string ⟨#[98, 111, 100, 121]⟩, .int .i64 (s : Nat), .int .i64 (i : Nat)] wr fun e w' => e = .returned (.int .u64 (rnW K X s i : Nat)) ∧ Below wr.heap.size wr w' := fun i wr h => by
    by_cases hi : i < K.B
    · have q := at13_yes (cap := cap) hK 10 s i (by omega) (K.bd_lt hs hi) (by have h := wat_body K.C K.D K.B s i hi; rw [← h]; congr 1; unfold Cf.bd Cf.hd; omega) hX h
      unfold rnW
      rw [if_pos hi]
      exact q
    · unfold rnW
      rw [if_neg hi]
      exact at13_no hK s i (by omega) _ wr
  have CN : ∀ i : Nat, ∀ w, Calls Tryz.prog 62 #[.agg #[.int .i64 (K.S : Nat), .int .i64 K.a, .int .i64 (K.C : Nat), .int .i64 (K.D : Nat), .int .i64 K.g, .int .i64 K.k], .int .u64 (rnW K X s i : Nat)] w fun e w' => e = .returned (.int .i64 (K.nm (rnW K X s i))) ∧ Below w.heap.size w w' := fun i w => rnamed_any hK (W := rnW K X s i) (by unfold rnW; split; exact hlt _; omega) w
  replace CB := hid1 CB
  replace CN := hid1 CN
  have HR := hid1 (fun (wq : World) (h : Below w.heap.size w wq) => hR.below h)
  have hr0 := hR.below is0.bel
  clear hR hlt hX hK
  generalize hW : X.getD (K.hd s) 0 = W at *
  clear hW
  obtain ⟨kz, hkz⟩ : ∃ kz : Int, ((knW W : Nat) : Int) = kz := ⟨_, rfl⟩
  obtain ⟨az, haz⟩ : ∃ az : Int, ((arW W : Nat) : Int) = az := ⟨_, rfl⟩
  rw [hkz, haz] at cu
  unfold Cf.cs at *
  go_enter Tryz.func32, Tryz.ntmps32
  obtain ⟨x0, x1, x2, x3, x4, x5⟩ := is0.cfg.cells
  go_upto_region 2 with (first
    | (go_at_call 29; with_reducible refine (ch _ hr0).mono ?_; rintro e w1 ⟨rfl, hb⟩; replace is0 := is0.below hb; clear x0 x1 x2 x3 x4 x5)
    | (go_at_call 28; with_reducible refine (cu _).mono ?_; rintro e w2 ⟨⟨m0, n0, s0, rfl⟩, hb2⟩; replace is0 := is0.below hb2; have hn := new_obj w2 (.cells #[.int .i64 kz, .int .i64 m0, .bool (grayW W), .int .i64 az, .int .i64 n0, .int .i64 s0] 57); replace is0 := is0.below (alloc_below _ (.cells #[.int .i64 kz, .int .i64 m0, .bool (grayW W), .int .i64 az, .int .i64 n0, .int .i64 s0] 57)); clear hb2))
  clear ch cu hr0 hb
  generalize hbh : w2.heap.size = bh at *
  generalize w2.alloc (.cells #[.int .i64 kz, .int .i64 m0, .bool (grayW W), .int .i64 az, .int .i64 n0, .int .i64 s0] 57) = w3 at *
  have is : Rn w w3 K w.heap.size bh kz az (.slice none 0 0) (rnL K X s (knW W) (arW W) 0) := ⟨is0, ⟨_, _, _, _, hn⟩⟩
  clear is0 hn hbh
  generalize hbc : w.heap.size = bc at is ⊢
  replace hbc := hid1 hbc
  generalize hk : knW W = k at *
  generalize ha : arW W = a at *
  replace hk := hid1 hk
  replace ha := hid1 ha
  replace hkz := hid1 hkz
  replace haz := hid1 haz
  go_upto_region 4 with fail
  go_loopw [9, 10] (fun l i wr => ∃ (n : Nat), n ≤ 15 ∧ i = .int .i64 n ∧ Rn w wr K bc bh kz az l (rnL K X s k a n)) (fun _ i _ => 15 - (intOf i).toNat)
  case atStart => exact ⟨0, Nat.zero_le _, rfl, is⟩
  case round =>
    clear is
    obtain ⟨n1, hn, rfl, is⟩ := hrel
    by_cases hl : n1 < 15
    · have hl1 : (n1 : Int) < 15 := by omega
      have c29 := CB.out n1
      have c62 := CN.out n1
      clear CB CN
      have hst : rnL K X s k a (n1 + 1) = rnL K X s k a n1 ++ (if fdB k a n1 = true then nn [K.nm (rnW K X s n1)] else []) := rfl
      have hlen := rnL_len K X s k a n1
      have e3 : IntKind.i64.wrap ((n1 : Int) + 1) = ((n1 + 1 : Nat) : Int) := by rw [IntKind.wrap_i64]; omega
      generalize hn2 : n1 + 1 = n2 at *
      replace hn2 := hid1 hn2
      generalize rnL K X s k a n1 = F at *
      generalize rnW K X s n1 = V at *
      generalize K.nm V = y at *
      replace hlen : Hid (F.length + [y].length ≤ 1000000) := hid1 (by simp only [List.length_singleton]; omega)
      obtain ⟨y0, y3⟩ := is.cells
      obtain ⟨ad, cp, hv, _⟩ := is.rv.own.form
      generalize F.length = q at hv
      subst hv
      rcases fd_cases k a n1 with h | h | h | h | h | h
      · have hf : fdB k a n1 = true := by unfold fdB; simp; omega
        simp only [hf, if_true] at hst
        clear hf
        replace hst := hid1 hst
        rw [← hkz.out, h.1] at y0
        change _ = some (Value.int .i64 1) at y0
        have f3 : (n1 : Int) < az := by (have := haz.out; omega)
        clear h
        go_upto_region 7 with fail
        clear y0 y3
        have ec29 := in_r (HR.out _ is.rv.bel) c29
        have ec62 := in_b c62 is.rv.bel
        have e2 := fun (w' : World) (hw' : Below _ _ w') => (is.rv.cfg.below hw').cells
        refine region_below (by kernel_rfl) (by kernel_rfl) ?_
        repeat (first | go_big_quiet_skip | (go_big_quiet_want; go_big_quiet_op; first | go_big_quiet_on | (refine ⟨_, fun _ _ => rfl, ?_⟩; go_big_quiet_on) | (with_reducible refine ⟨_, ec29, ?_⟩; go_big_quiet_on) | (with_reducible refine ⟨_, ec62, ?_⟩; go_big_quiet_on) | (refine ⟨.agg #[.int .i64 (K.S : Nat), .int .i64 K.a, .int .i64 (K.C : Nat), .int .i64 (K.D : Nat), .int .i64 K.g, .int .i64 K.k], ?_, ?_⟩; (focus (intro w' hw'; obtain ⟨l0, l1, l2, l3, l4, l5⟩ := e2 w' hw'; simp [l0, l1, l2, l3, l4, l5, Result.andThen]; done)); go_big_quiet_on)))
        refine wpQuiet_nil ?_
        intro w8 hb8
        replace is := is.below hb8
        clear hb8 e2 ec29 ec62 c29 c62
        by_cases hy : 0 ≤ y
        · have hst2 := hst.out
          rw [nn_yes hy] at hst2
          replace hst2 := hid1 hst2
          have hy2 : decide (0 ≤ y) = true := decide_eq_true hy
          (try clear f3)
          go_wp2_with (at_builtin; refine wpList_append_ints rfl _ _ rfl _ F [y] rfl (is.below (alloc_below _ (.cells #[.int .i64 y] 3))).rv.own ⟨_, 0, none⟩ 1 1 rfl rfl (by simp) (one_new _ _ _) hlen.out ?_; intro v' w9 hI hg hp; replace is := (is.below (alloc_below _ (.cells #[.int .i64 y] 3))).grow hI hg hp; clear hI hg hp; obtain ⟨ad', cp', hv', _⟩ := is.rv.own.form; generalize (F ++ [y]).length = q' at hv'; subst hv')
          rw [← hst2.out] at is
          go_roundw
          case rel => exact ⟨n2, by have := hn2.out; omega, rfl, is⟩
          case measure => (have := hn2.out; simp [intOf]; omega)
        · have hst2 := hst.out
          rw [nn_no hy, List.append_nil] at hst2
          rw [← hst2] at is
          clear hst2
          have hy2 : decide (0 ≤ y) = false := decide_eq_false hy
          go_wp2
          go_roundw
          case rel => exact ⟨n2, by have := hn2.out; omega, rfl, is⟩
          case measure => (have := hn2.out; simp [intOf]; omega)
      · have hf : fdB k a n1 = false := by unfold fdB; simp; omega
        simp only [hf, Bool.false_eq_true, if_false] at hst
        clear hf
        replace hst := hid1 hst
        rw [← hkz.out, h.1] at y0
        change _ = some (Value.int .i64 1) at y0
        have f3 : ¬ (n1 : Int) < az := by (have := haz.out; omega)
        clear h
        go_upto_region 7 with fail
        clear y0 y3
        have ec29 := in_r (HR.out _ is.rv.bel) c29
        have ec62 := in_b c62 is.rv.bel
        have e2 := fun (w' : World) (hw' : Below _ _ w') => (is.rv.cfg.below hw').cells
        refine region_below (by kernel_rfl) (by kernel_rfl) ?_
        repeat (first | go_big_quiet_skip | (go_big_quiet_want; go_big_quiet_op; first | go_big_quiet_on | (refine ⟨_, fun _ _ => rfl, ?_⟩; go_big_quiet_on) | (with_reducible refine ⟨_, ec29, ?_⟩; go_big_quiet_on) | (with_reducible refine ⟨_, ec62, ?_⟩; go_big_quiet_on) | (refine ⟨.agg #[.int .i64 (K.S : Nat), .int .i64 K.a, .int .i64 (K.C : Nat), .int .i64 (K.D : Nat), .int .i64 K.g, .int .i64 K.k], ?_, ?_⟩; (focus (intro w' hw'; obtain ⟨l0, l1, l2, l3, l4, l5⟩ := e2 w' hw'; simp [l0, l1, l2, l3, l4, l5, Result.andThen]; done)); go_big_quiet_on)))
        refine wpQuiet_nil ?_
        intro w8 hb8
        replace is := is.below hb8
        clear hb8 e2 ec29 ec62 c29 c62
        have hst2 := hst.out
        rw [List.append_nil] at hst2
        rw [← hst2] at is
        clear hst2
        go_wp2
        go_roundw
        case rel => exact ⟨n2, by have := hn2.out; omega, rfl, is⟩
        case measure => (have := hn2.out; simp [intOf]; omega)
      · have hf : fdB k a n1 = true := by unfold fdB; simp; omega
        simp only [hf, if_true] at hst
        clear hf
        replace hst := hid1 hst
        rw [← hkz.out, h.1] at y0
        change _ = some (Value.int .i64 2) at y0
        obtain rfl : n1 = 0 := h.2
        replace c29 : ∀ wr, RdW wr b off X → Calls Tryz.prog 29 #[.agg #[.int .i64 (K.S : Nat), .int .i64 K.a, .int .i64 (K.C : Nat), .int .i64 (K.D : Nat), .int .i64 K.g, .int .i64 K.k], .slice (some ⟨b, off, none⟩) K.N cap, .string ⟨#[98, 111, 100, 121]⟩, .int .i64 (s : Nat), .int .i64 0] wr fun e w' => e = .returned (.int .u64 (V : Nat)) ∧ Below wr.heap.size wr w' := c29
        replace hl1 : (0 : Int) < 15 := by omega
        obtain rfl : n2 = 1 := hn2.out.symm
        clear e3
        clear h
        go_upto_region 7 with fail
        clear y0 y3
        have ec29 := in_r (HR.out _ is.rv.bel) c29
        have ec62 := in_b c62 is.rv.bel
        have e2 := fun (w' : World) (hw' : Below _ _ w') => (is.rv.cfg.below hw').cells
        refine region_below (by kernel_rfl) (by kernel_rfl) ?_
        repeat (first | go_big_quiet_skip | (go_big_quiet_want; go_big_quiet_op; first | go_big_quiet_on | (refine ⟨_, fun _ _ => rfl, ?_⟩; go_big_quiet_on) | (with_reducible refine ⟨_, ec29, ?_⟩; go_big_quiet_on) | (with_reducible refine ⟨_, ec62, ?_⟩; go_big_quiet_on) | (refine ⟨.agg #[.int .i64 (K.S : Nat), .int .i64 K.a, .int .i64 (K.C : Nat), .int .i64 (K.D : Nat), .int .i64 K.g, .int .i64 K.k], ?_, ?_⟩; (focus (intro w' hw'; obtain ⟨l0, l1, l2, l3, l4, l5⟩ := e2 w' hw'; simp [l0, l1, l2, l3, l4, l5, Result.andThen]; done)); go_big_quiet_on)))
        refine wpQuiet_nil ?_
        intro w8 hb8
        replace is := is.below hb8
        clear hb8 e2 ec29 ec62 c29 c62
        by_cases hy : 0 ≤ y
        · have hst2 := hst.out
          rw [nn_yes hy] at hst2
          replace hst2 := hid1 hst2
          have hy2 : decide (0 ≤ y) = true := decide_eq_true hy
          (try clear f3)
          go_wp2_with (at_builtin; refine wpList_append_ints rfl _ _ rfl _ F [y] rfl (is.below (alloc_below _ (.cells #[.int .i64 y] 3))).rv.own ⟨_, 0, none⟩ 1 1 rfl rfl (by simp) (one_new _ _ _) hlen.out ?_; intro v' w9 hI hg hp; replace is := (is.below (alloc_below _ (.cells #[.int .i64 y] 3))).grow hI hg hp; clear hI hg hp; obtain ⟨ad', cp', hv', _⟩ := is.rv.own.form; generalize (F ++ [y]).length = q' at hv'; subst hv')
          rw [← hst2.out] at is
          go_roundw
          case rel => exact ⟨1, by omega, rfl, is⟩
          case measure => simp [intOf]
        · have hst2 := hst.out
          rw [nn_no hy, List.append_nil] at hst2
          rw [← hst2] at is
          clear hst2
          have hy2 : decide (0 ≤ y) = false := decide_eq_false hy
          go_wp2
          go_roundw
          case rel => exact ⟨1, by omega, rfl, is⟩
          case measure => simp [intOf]
      · have hf : fdB k a n1 = true := by unfold fdB; simp; omega
        simp only [hf, if_true] at hst
        clear hf
        replace hst := hid1 hst
        rw [← hkz.out, h.1] at y0
        change _ = some (Value.int .i64 2) at y0
        obtain rfl : n1 = 2 := h.2
        replace c29 : ∀ wr, RdW wr b off X → Calls Tryz.prog 29 #[.agg #[.int .i64 (K.S : Nat), .int .i64 K.a, .int .i64 (K.C : Nat), .int .i64 (K.D : Nat), .int .i64 K.g, .int .i64 K.k], .slice (some ⟨b, off, none⟩) K.N cap, .string ⟨#[98, 111, 100, 121]⟩, .int .i64 (s : Nat), .int .i64 2] wr fun e w' => e = .returned (.int .u64 (V : Nat)) ∧ Below wr.heap.size wr w' := c29
        replace hl1 : (2 : Int) < 15 := by omega
        obtain rfl : n2 = 3 := hn2.out.symm
        clear e3
        clear h
        go_upto_region 7 with fail
        clear y0 y3
        have ec29 := in_r (HR.out _ is.rv.bel) c29
        have ec62 := in_b c62 is.rv.bel
        have e2 := fun (w' : World) (hw' : Below _ _ w') => (is.rv.cfg.below hw').cells
        refine region_below (by kernel_rfl) (by kernel_rfl) ?_
        repeat (first | go_big_quiet_skip | (go_big_quiet_want; go_big_quiet_op; first | go_big_quiet_on | (refine ⟨_, fun _ _ => rfl, ?_⟩; go_big_quiet_on) | (with_reducible refine ⟨_, ec29, ?_⟩; go_big_quiet_on) | (with_reducible refine ⟨_, ec62, ?_⟩; go_big_quiet_on) | (refine ⟨.agg #[.int .i64 (K.S : Nat), .int .i64 K.a, .int .i64 (K.C : Nat), .int .i64 (K.D : Nat), .int .i64 K.g, .int .i64 K.k], ?_, ?_⟩; (focus (intro w' hw'; obtain ⟨l0, l1, l2, l3, l4, l5⟩ := e2 w' hw'; simp [l0, l1, l2, l3, l4, l5, Result.andThen]; done)); go_big_quiet_on)))
        refine wpQuiet_nil ?_
        intro w8 hb8
        replace is := is.below hb8
        clear hb8 e2 ec29 ec62 c29 c62
        by_cases hy : 0 ≤ y
        · have hst2 := hst.out
          rw [nn_yes hy] at hst2
          replace hst2 := hid1 hst2
          have hy2 : decide (0 ≤ y) = true := decide_eq_true hy
          (try clear f3)
          go_wp2_with (at_builtin; refine wpList_append_ints rfl _ _ rfl _ F [y] rfl (is.below (alloc_below _ (.cells #[.int .i64 y] 3))).rv.own ⟨_, 0, none⟩ 1 1 rfl rfl (by simp) (one_new _ _ _) hlen.out ?_; intro v' w9 hI hg hp; replace is := (is.below (alloc_below _ (.cells #[.int .i64 y] 3))).grow hI hg hp; clear hI hg hp; obtain ⟨ad', cp', hv', _⟩ := is.rv.own.form; generalize (F ++ [y]).length = q' at hv'; subst hv')
          rw [← hst2.out] at is
          go_roundw
          case rel => exact ⟨3, by omega, rfl, is⟩
          case measure => simp [intOf]
        · have hst2 := hst.out
          rw [nn_no hy, List.append_nil] at hst2
          rw [← hst2] at is
          clear hst2
          have hy2 : decide (0 ≤ y) = false := decide_eq_false hy
          go_wp2
          go_roundw
          case rel => exact ⟨3, by omega, rfl, is⟩
          case measure => simp [intOf]
      · have hf : fdB k a n1 = false := by unfold fdB; simp; omega
        simp only [hf, Bool.false_eq_true, if_false] at hst
        clear hf
        replace hst := hid1 hst
        rw [← hkz.out, h.1] at y0
        change _ = some (Value.int .i64 2) at y0
        have f4 : ((n1 : Int) == 0) = false := by simp; omega
        have f5 : ((n1 : Int) == 2) = false := by simp; omega
        clear h
        go_upto_region 7 with fail
        clear y0 y3
        have ec29 := in_r (HR.out _ is.rv.bel) c29
        have ec62 := in_b c62 is.rv.bel
        have e2 := fun (w' : World) (hw' : Below _ _ w') => (is.rv.cfg.below hw').cells
        refine region_below (by kernel_rfl) (by kernel_rfl) ?_
        repeat (first | go_big_quiet_skip | (go_big_quiet_want; go_big_quiet_op; first | go_big_quiet_on | (refine ⟨_, fun _ _ => rfl, ?_⟩; go_big_quiet_on) | (with_reducible refine ⟨_, ec29, ?_⟩; go_big_quiet_on) | (with_reducible refine ⟨_, ec62, ?_⟩; go_big_quiet_on) | (refine ⟨.agg #[.int .i64 (K.S : Nat), .int .i64 K.a, .int .i64 (K.C : Nat), .int .i64 (K.D : Nat), .int .i64 K.g, .int .i64 K.k], ?_, ?_⟩; (focus (intro w' hw'; obtain ⟨l0, l1, l2, l3, l4, l5⟩ := e2 w' hw'; simp [l0, l1, l2, l3, l4, l5, Result.andThen]; done)); go_big_quiet_on)))
        refine wpQuiet_nil ?_
        intro w8 hb8
        replace is := is.below hb8
        clear hb8 e2 ec29 ec62 c29 c62
        have hst2 := hst.out
        rw [List.append_nil] at hst2
        rw [← hst2] at is
        clear hst2
        go_wp2
        go_roundw
        case rel => exact ⟨n2, by have := hn2.out; omega, rfl, is⟩
        case measure => (have := hn2.out; simp [intOf]; omega)
      · have hf : fdB k a n1 = false := by unfold fdB; simp; omega
        simp only [hf, Bool.false_eq_true, if_false] at hst
        clear hf
        replace hst := hid1 hst
        have f1 : (kz == 1) = false := by (have := hkz.out; simp; omega)
        have f2 : (kz == 2) = false := by (have := hkz.out; simp; omega)
        clear h
        go_upto_region 7 with fail
        clear y0 y3
        have ec29 := in_r (HR.out _ is.rv.bel) c29
        have ec62 := in_b c62 is.rv.bel
        have e2 := fun (w' : World) (hw' : Below _ _ w') => (is.rv.cfg.below hw').cells
        refine region_below (by kernel_rfl) (by kernel_rfl) ?_
        repeat (first | go_big_quiet_skip | (go_big_quiet_want; go_big_quiet_op; first | go_big_quiet_on | (refine ⟨_, fun _ _ => rfl, ?_⟩; go_big_quiet_on) | (with_reducible refine ⟨_, ec29, ?_⟩; go_big_quiet_on) | (with_reducible refine ⟨_, ec62, ?_⟩; go_big_quiet_on) | (refine ⟨.agg #[.int .i64 (K.S : Nat), .int .i64 K.a, .int .i64 (K.C : Nat), .int .i64 (K.D : Nat), .int .i64 K.g, .int .i64 K.k], ?_, ?_⟩; (focus (intro w' hw'; obtain ⟨l0, l1, l2, l3, l4, l5⟩ := e2 w' hw'; simp [l0, l1, l2, l3, l4, l5, Result.andThen]; done)); go_big_quiet_on)))
        refine wpQuiet_nil ?_
        intro w8 hb8
        replace is := is.below hb8
        clear hb8 e2 ec29 ec62 c29 c62
        have hst2 := hst.out
        rw [List.append_nil] at hst2
        rw [← hst2] at is
        clear hst2
        go_wp2
        go_roundw
        case rel => exact ⟨n2, by have := hn2.out; omega, rfl, is⟩
        case measure => (have := hn2.out; simp [intOf]; omega)
    · obtain rfl : n1 = 15 := by omega
      have hl1 : ¬ ((15 : Nat) : Int) < 15 := by omega
      obtain ⟨ad, cp, hv, _⟩ := is.rv.own.form
      generalize (rnL K X s k a 15).length = q at hv
      subst hv
      clear CB CN HR
      go_wp2
      go_ret
      have hb := hbc.out
      clear hbc
      subst hb
      have q0 := is.rv.own
      rw [← hk.out, ← ha.out] at q0
      exact ⟨_, rfl, q0, is.rv.og, is.rv.bel⟩
end Go.Proofs.YtcioomopgdhlmaaGreatDoor
