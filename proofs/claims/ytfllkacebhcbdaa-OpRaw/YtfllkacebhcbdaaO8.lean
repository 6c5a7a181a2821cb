/- Layer 16: OpRaw. -/
import Derived.Test.YtfllkacebhcbdaaO8a
namespace Go.Proofs.Ytfllkacebhcbdaa
open Go.RowKit
set_option linter.unusedSimpArgs false
set_option linter.unusedVariables false

theorem rd_one (w : World) (x : Nat) : RdU (w.alloc (.cells #[.int .u64 (x : Nat)] 22)) (some ⟨w.heap.size, 0, none⟩) [x] := by
  intro i y hy
  match i, hy with
  | 0, hy => obtain rfl : x = y := by simpa using hy
             have hq := new_obj w (.cells #[.int .u64 (x : Nat)] 22)
             exact ⟨w.heap.size, 0, rfl, lt_of_block hq, by simp only [World.cell?, hq]; rfl⟩
  | i + 1, hy => simp at hy
theorem Ls.rd {w0 w : World} {ad : Option Addr} {n cp : Nat} {T : List (List Nat)} {more : Nat} {xs : List Value} (h : Ls w0 w (.slice ad n cp) n T more xs) (hn : n = T.length) (hB : ∀ L ∈ T, (L.length + 1) * 8 ≤ 140737488355328) : RdT w ad (T.map fun L => L ++ [more]) := by
  intro i L' hi
  rw [List.getElem?_map] at hi
  cases hL : T[i]? with
  | none => rw [hL] at hi; cases hi
  | some L =>
    rw [hL] at hi
    obtain rfl : L ++ [more] = L' := by simpa using hi
    have hin : i < n := by have := (List.getElem?_eq_some_iff.1 hL).1; omega
    obtain ⟨u, hu, g2, off2, cap2, cur2, rfl, hh2, hc2⟩ := h.row i L hin hL
    rcases h.own.2 with ⟨_, h0⟩ | ⟨g, cap, cur, hv, _, hh, _, _, _, h5⟩
    · omega
    · simp only [Value.slice.injEq] at hv
      obtain ⟨rfl, _, rfl⟩ := hv
      have hcu : cur[i]? = some (.slice (some ⟨g2, off2, none⟩) (L ++ [more]).length cap2) := by
        rw [← h5, Nat.mul_one, List.getElem?_take, if_pos hin] at hu
        simpa using hu
      have hlb := hB L (List.mem_of_getElem? hL)
      refine ⟨g, 0, some ⟨g2, off2, none⟩, cap2, rfl, lt_of_block hh, by simp only [World.cell?, hh, Nat.zero_add]; exact hcu, fun j x hx => ⟨g2, off2, rfl, lt_of_block hh2, by simp only [World.cell?, hh2]; exact hc2 j x hx⟩, ?_⟩
      simp only [List.length_append, List.length_cons, List.length_nil]
      omega
theorem raw_same {of cl self : Int} {raw more : Nat} {T : List (List Nat)} {n : Nat} (h : ∃ (i : Nat) (L : List Nat), i < n ∧ T[i]? = some L ∧ 0 ≤ of ∧ of < (L.length : Int) ∧ whoF cl self = i) : valF of cl raw self (T.map fun L => L ++ [more]) = valF of cl raw self T := by
  obtain ⟨i, L, _, hL, h0, h1, hw⟩ := h
  unfold valF
  rw [if_neg (by omega), if_neg (by omega), if_neg (by omega), if_neg (by omega), hw]
  rw [Int.toNat_natCast, List.getD_eq_getElem?_getD (l := T.map _), List.getD_eq_getElem?_getD (l := T), List.getElem?_map, hL]
  simp only [Option.map_some, Option.getD_some]
  rw [List.getD_eq_getElem?_getD, List.getD_eq_getElem?_getD, List.getElem?_append_left (by omega)]
set_option maxRecDepth 100000 in
set_option maxHeartbeats 8000000 in
theorem raw_law {w : World} {ad : Option Addr} {T : List (List Nat)} {len : Nat} (cap : Nat) (hl : len = T.length) (hT : RdT w ad T) (hb : (len + 1) * 24 ≤ 140737488355328) (hB : ∀ L ∈ T, (L.length + 1) * 8 ≤ 140737488355328) (of cl : Int) (raw : Nat) (self : Int) (more : Nat) :
    Calls Try.prog 6 #[.agg #[.int .i64 of, .int .i64 cl, .int .u64 (raw : Nat)], .int .i64 self, .slice ad len cap, .int .u64 (more : Nat)] w fun r w' => r = .returned (.bool true) ∧ Below w.heap.size w w' := by
  obtain ⟨i0, hi, hz0, hz1, hz2⟩ := info_parts Try.infoU
  obtain ⟨i1, hj, hy0, hy1, hy2⟩ := info_parts Try.infoSU
  have hq := new_obj w (.cells #[.int .i64 of, .int .i64 cl, .int .u64 (raw : Nat)] 24)
  have bel := alloc_below w (.cells #[.int .i64 of, .int .i64 cl, .int .u64 (raw : Nat)] 24)
  have HT := hid1 (fun (wr : World) (b : Below w.heap.size w wr) => hT.below b)
  have C1 := hid1 (fun (wr : World) (b : Below w.heap.size w wr) => value_any cap hl (hT.below b) (by omega) of cl raw self)
  have C0 := hid1 (fun (wr : World) => value_any (w := wr) 0 rfl (show RdT wr none [] from fun i L hi => by simp at hi) (by decide) of cl raw self)
  replace hl := hid1 hl
  replace hB := hid1 hB
  clear hT
  go_enter Try.func6, Try.ntmps6
  go_upto_region 1 with fail
  generalize w.alloc _ = w1 at *
  --BODY
  by_cases h0 : (0 : Int) ≤ of
  · have g0 : decide ((0 : Int) ≤ of) = true := decide_eq_true h0
    have k1 := (fun (w' : World) (hw' : Below w1.heap.size w1 w') => (C1.out w' (seq_below bel hw')).mono fun _ _ ⟨he, hb⟩ => ⟨he, seq_below hw' hb⟩ : ∀ w', Below w1.heap.size w1 w' → Calls Try.prog 9 #[.agg #[.int .i64 of, .int .i64 cl, .int .u64 (raw : Nat)], .int .i64 self, .slice ad len cap] w' fun r w'' => r = .returned (.int .u64 (valF of cl raw self T : Nat)) ∧ Below w1.heap.size w1 w'')
    have k0 := (fun (w' : World) (hw' : Below w1.heap.size w1 w') => (C0.out w').mono fun _ _ ⟨he, hb⟩ => ⟨he, seq_below hw' hb⟩ : ∀ w', Below w1.heap.size w1 w' → Calls Try.prog 9 #[.agg #[.int .i64 of, .int .i64 cl, .int .u64 (raw : Nat)], .int .i64 self, .slice none 0 0] w' fun r w'' => r = .returned (.int .u64 (valF of cl raw self [] : Nat)) ∧ Below w1.heap.size w1 w'')
    have e2 := fun (w' : World) (hw' : Below w1.heap.size w1 w') => arg_cells ((hw'.block _ (lt_of_block hq)).trans hq)
    refine region_below (by kernel_rfl) (by kernel_rfl) ?_
    repeat (first | go_big_quiet_skip | (go_big_quiet_want; go_big_quiet_op; first | go_big_quiet_on | (refine ⟨_, fun _ _ => rfl, ?_⟩; go_big_quiet_on) | (with_reducible refine ⟨_, k1, ?_⟩; go_big_quiet_on) | (with_reducible refine ⟨_, k0, ?_⟩; go_big_quiet_on) | (refine ⟨.agg #[.int .i64 of, .int .i64 cl, .int .u64 (raw : Nat)], ?_, ?_⟩; (focus (intro w' hw'; obtain ⟨l0, l1, l2⟩ := e2 w' hw'; simp [l0, l1, l2, Result.andThen]; done)); go_big_quiet_on) | (refine ⟨.int .i64 of, ?_, ?_⟩; (focus (intro w' hw'; obtain ⟨l0, l1, l2⟩ := e2 w' hw'; simp [l0, Result.andThen]; done)); go_big_quiet_on) | (refine ⟨.int .u64 (raw : Nat), ?_, ?_⟩; (focus (intro w' hw'; obtain ⟨l0, l1, l2⟩ := e2 w' hw'; simp [l2, Result.andThen]; done)); go_big_quiet_on) | (refine ⟨.bool true, ?_, ?_⟩; (focus (intro w' hw'; simp [go_sem, Result.andThen, h0]; done)); go_big_quiet_on)))
    refine wpQuiet_nil ?_
    intro w8 hb8
    clear k0 e2 k1
    replace hq := (hb8.block _ (lt_of_block hq)).trans hq
    replace bel := seq_below bel hb8
    clear hb8 C0
    obtain ⟨y0, y1, y2⟩ := arg_cells hq
    go_upto_region 3 with (go_at_call 9; with_reducible refine (C1.out _ bel).mono ?_; rintro r w5 ⟨rfl, b⟩; replace bel := seq_below bel b; replace hq := (b.block _ (lt_of_block hq)).trans hq; clear b y0 y1 y2)
    clear C1
    obtain ⟨fx, hfx⟩ : ∃ fx, valF of cl raw self T = fx := ⟨_, rfl⟩
    rw [hfx]
    replace hfx := hid1 hfx
    have is : Ls w5 w5 (.slice none 0 0) 0 T more [] := ⟨World.ownsRow_nil _ _ _ _, fun i L hi => by omega, Below.refl _ _⟩
    have BW := hid1 bel
    have hk0 : Hid (false = true → ∃ (i : Nat) (L : List Nat), i < 0 ∧ T[i]? = some L ∧ 0 ≤ of ∧ of < (L.length : Int) ∧ whoF cl self = i) := hid1 (fun h => by cases h)
    go_upto_region 6 with fail
    have hQ : ∀ wr, Below w5.heap.size w5 wr → wr.heap[w.heap.size]? = some (.cells #[.int .i64 of, .int .i64 cl, .int .u64 (raw : Nat)] 24 (0, 0)) := fun wr b => (b.block _ (lt_of_block hq)).trans hq
    replace hQ := hid1 hQ
    generalize hbc : w.heap.size = bc at hq hQ ⊢
    replace hbc := hid1 hbc
    go_loopw [11, 12, 13] (fun l kn i wr => ∃ (n : Nat) (kb : Bool) (xs : List Value), n ≤ len ∧ i = .int .i64 n ∧ kn = .bool kb ∧ Ls w5 wr l n T more xs ∧ Hid (kb = true → ∃ (i : Nat) (L : List Nat), i < n ∧ T[i]? = some L ∧ 0 ≤ of ∧ of < (L.length : Int) ∧ whoF cl self = i)) (fun _ _ i _ => len - (intOf i).toNat)
    case atStart => exact ⟨0, false, [], Nat.zero_le _, rfl, rfl, is, hk0⟩
    case round =>
      clear is hk0 hq bel
      obtain ⟨n, kb, xs, hn, rfl, rfl, is, hk⟩ := hrel
      by_cases hlt : n < len
      · have hl1 : (n : Int) < (len : Int) := by omega
        have hl0 : (0 : Int) ≤ (n : Int) := by omega
        have e3 : IntKind.i64.wrap ((n : Int) + 1) = ((n + 1 : Nat) : Int) := by rw [IntKind.wrap_i64]; omega
        obtain ⟨L, hL⟩ : ∃ L, T[n]? = some L := ⟨_, List.getElem?_eq_getElem (by have := hl.out; omega)⟩
        obtain ⟨b, off, a, c, hA, hbs, z0, hR, hLb⟩ := HT.out _ (seq_below BW.out is.bel) _ L hL
        have hLB := hid1 (hB.out L (List.mem_of_getElem? hL))
        obtain ⟨ln, hln⟩ : ∃ ln, L.length = ln := ⟨_, rfl⟩
        rw [hln] at z0 hLb
        replace hln := hid1 hln
        replace hL := hid1 hL
        replace hR := hid1 hR
        subst hA
        generalize hk2 : n + 1 = n2 at *
        replace hk2 := hid1 hk2
        obtain ⟨ad1, cp1, hv1⟩ := own_form is.own
        subst hv1
        rename_i wr
        have bA := alloc_below wr (.cells #[] 22)
        have hE := new_obj wr (.cells #[] 22)
        have own0 : (wr.alloc (.cells #[] 22)).ownsRow wr.heap.size 22 1 (.slice (some ⟨wr.heap.size, 0, none⟩) 0 0) 0 (us []) := ⟨rfl, .inr ⟨wr.heap.size, 0, #[], rfl, Nat.le_refl _, hE, Nat.le_refl _, Nat.zero_le _, rfl, rfl⟩⟩
        have hRA := hid1 (hR.out.below bA)
        have hbL : (0 + L.length) * 8 ≤ 140737488355328 := by have := hLB.out; omega
        replace hbL := hid1 hbL
        replace own0 := hid1 own0
        clear hE hR
        go_upto_region 9 with (first
          | (at_builtin; refine wpList_append_us rfl _ _ rfl _ 0 _ [] rfl own0.out _ ln c L rfl hln.out.symm hRA.out hbL.out bA.size ?_; intro v1 w2 own1 g1; replace bA := below_grown bA g1 (fun x hx => by cases hx; exact Nat.le_refl _) bA.size; clear own0 g1 hRA; have bB := alloc_below w2 (.cells #[.int .u64 (more : Nat)] 22); have hRB := hid1 (rd_one w2 more); replace own1 := hid1 (own_below own1 bB); replace bB := seq_below bA bB; clear bA)
          | (at_builtin; refine wpList_append_us rfl _ _ rfl _ _ _ _ rfl own1.out _ 1 1 [more] rfl rfl hRB.out (by have := hLB.out; simp only [List.length_cons, List.length_nil]; omega) bB.size ?_; intro v2 w3 own2 g2; replace bB := below_grown bB g2 (fun x hx => (own1.out.lt x hx).1) bB.size; clear own1 g2 hRB; obtain ⟨ad2, cp2, hv2⟩ := own_form own2; generalize 0 + L.length + [more].length = q2 at own2 hv2; subst hv2; have hU := RowU.of_own own2 (by simp); have bC := alloc_below w3 (.cells #[.slice ad2 q2 cp2] 36); replace hU := hid1 (hU.below bC); replace bC := seq_below bB bC; have is3 := is.below bC; clear bB own2)
          | (at_builtin; refine wpList_append_own _ rfl _ _ 25 rfl w5.heap.size 36 i1 _ 1 24 Try.underlying25 hj hy0 hy1 hy2 rfl (by decide) _ _ _ rfl is3.own ⟨_, 0, none⟩ 1 1 [.slice ad2 q2 cp2] rfl rfl (fun j u hj => new_news _ _ _ j u hj) (by intro u hu; obtain rfl := List.mem_singleton.1 hu; rfl) ?c3 ?c4 ?c5 ?_)); rotate_left
        case c3 => unfold maxLen; omega
        case c4 => omega
        case c5 => exact is3.bel.size
        intro v' w4 hown hgrow _
        have is4 := is3.grow hL.out (by have := hU.out; rw [List.nil_append] at this; exact this) hown hgrow
        rw [hk2.out] at is4
        clear is3 hU hown hgrow is hLB hbL bC z0
        obtain ⟨ad4, cp4, hv4⟩ := own_form is4.own
        subst hv4
        obtain ⟨y0, y1, y2⟩ := arg_cells (hQ.out _ is4.bel)
        obtain ⟨b', off', a', c', hA', _, z1, _, _⟩ := HT.out _ (seq_below BW.out is4.bel) _ L hL.out
        simp only [Option.some.injEq, Addr.mk.injEq] at hA'
        obtain ⟨rfl, rfl, -⟩ := hA'
        rw [hln.out] at z1
        cases kb with
        | true =>
          have hk3 := hid1 (fun (_ : true = true) => (by obtain ⟨i, L, h1, h2⟩ := hk.out rfl; exact ⟨i, L, by have := hk2.out; omega, h2⟩ : ∃ (i : Nat) (L : List Nat), i < n2 ∧ T[i]? = some L ∧ 0 ≤ of ∧ of < (L.length : Int) ∧ whoF cl self = i))
          go_upto_region 9 with fail
          go_quiet (fail)
          go_wp2
          go_roundw
          case rel => exact ⟨n2, true, _, by have := hk2.out; omega, rfl, rfl, is4.below (drewN_below (Below.refl _ _) _), hk3⟩
          case measure => (have := hk2.out; simp [intOf]; omega)
        | false =>
          clear hk
          by_cases hof : of < (ln : Int)
          · have f0 : decide (of < (ln : Int)) = true := decide_eq_true hof
            have hwa := who_at (cl := cl) (self := self) (j := n)
            by_cases hc : (n : Int) = cl
            · have f1 : ((n : Int) == cl) = true := by simpa using hc
              have hw := hwa.1 (.inl hc)
              replace hw := hid1 hw
              replace hc := hid1 hc
              clear hwa
              go_upto_region 9 with fail
              go_quiet (fail)
              go_wp2
              go_roundw
              case rel => exact ⟨n2, true, _, by have := hk2.out; omega, rfl, rfl, is4.below (drewN_below (Below.refl _ _) _), hid1 (fun _ => ⟨n, L, by have := hk2.out; omega, hL.out, h0, by rw [hln.out]; exact hof, hw.out⟩)⟩
              case measure => (have := hk2.out; simp [intOf]; omega)
            · have f1 : ((n : Int) == cl) = false := by simpa using hc
              by_cases hn0 : cl < 0
              · have f2 : decide (cl < 0) = true := decide_eq_true hn0
                by_cases hs : (n : Int) = self
                · have f3 : ((n : Int) == self) = true := by simpa using hs
                  have hw := hwa.1 (.inr ⟨hn0, hs⟩)
                  replace hw := hid1 hw
                  replace hs := hid1 hs
                  clear hwa
                  go_upto_region 9 with fail
                  go_quiet (fail)
                  go_wp2
                  go_roundw
                  case rel => exact ⟨n2, true, _, by have := hk2.out; omega, rfl, rfl, is4.below (drewN_below (Below.refl _ _) _), hid1 (fun _ => ⟨n, L, by have := hk2.out; omega, hL.out, h0, by rw [hln.out]; exact hof, hw.out⟩)⟩
                  case measure => (have := hk2.out; simp [intOf]; omega)
                · have f3 : ((n : Int) == self) = false := by simpa using hs
                  clear hwa
                  go_upto_region 9 with fail
                  go_quiet (fail)
                  go_wp2
                  go_roundw
                  case rel => exact ⟨n2, false, _, by have := hk2.out; omega, rfl, rfl, is4.below (drewN_below (Below.refl _ _) _), hid1 (fun h => by cases h)⟩
                  case measure => (have := hk2.out; simp [intOf]; omega)
              · have f2 : decide (cl < 0) = false := decide_eq_false hn0
                clear hwa
                go_upto_region 9 with fail
                go_quiet (fail)
                go_wp2
                go_roundw
                case rel => exact ⟨n2, false, _, by have := hk2.out; omega, rfl, rfl, is4.below (drewN_below (Below.refl _ _) _), hid1 (fun h => by cases h)⟩
                case measure => (have := hk2.out; simp [intOf]; omega)
          · have f0 : decide (of < (ln : Int)) = false := decide_eq_false hof
            go_upto_region 9 with fail
            go_quiet (fail)
            go_wp2
            go_roundw
            case rel => exact ⟨n2, false, _, by have := hk2.out; omega, rfl, rfl, is4.below (drewN_below (Below.refl _ _) _), hid1 (fun h => by cases h)⟩
            case measure => (have := hk2.out; simp [intOf]; omega)
      · obtain rfl : n = len := by omega
        have hl1 : ¬ (n : Int) < (n : Int) := by omega
        rename_i wr
        obtain ⟨ad1, cp1, hv1⟩ := own_form is.own
        subst hv1
        have hT2 := is.rd hl.out hB.out
        have hq := hQ.out _ is.bel
        have belr := seq_below BW.out is.bel
        obtain ⟨y0, y1, y2⟩ := arg_cells hq
        cases kb with
        | true =>
          have hsm := raw_same (raw := raw) (more := more) (hk.out rfl)
          have k1 : Calls Try.prog 9 #[.agg #[.int .i64 of, .int .i64 cl, .int .u64 (raw : Nat)], .int .i64 self, .slice ad1 n cp1] wr fun r w'' => r = .returned (.int .u64 (valF of cl raw self (T.map fun L => L ++ [more]) : Nat)) ∧ Below wr.heap.size wr w'' := value_any cp1 (by rw [List.length_map]; exact hl.out) hT2 (by omega) of cl raw self
          rw [hsm, hfx.out] at k1
          clear hsm hk hT2 hq
          go_wp2_with (first
            | (go_at_call 9; with_reducible refine k1.mono ?_; rintro r w5 ⟨rfl, b⟩; replace belr := seq_below belr b; clear b)
            | (go_at_call 11; with_reducible refine (awake16 _).mono ?_; rintro r w6 ⟨rfl, b⟩; replace belr := seq_below belr b))
          go_ret
          exact ⟨rfl, belr⟩
        | false =>
          clear hk hT2 hq
          go_wp2_with (go_at_call 11; with_reducible refine (awake16 _).mono ?_; rintro r w6 ⟨rfl, b⟩; replace belr := seq_below belr b)
          go_ret
          exact ⟨rfl, belr⟩
  · have g0 : decide ((0 : Int) ≤ of) = false := decide_eq_false h0
    have ev1 : valF of cl raw self T = raw := by unfold valF; rw [if_pos (by omega)]
    have ev0 : valF of cl raw self [] = raw := by unfold valF; rw [if_pos (by omega)]
    have k1 := (fun (w' : World) (hw' : Below w1.heap.size w1 w') => (C1.out w' (seq_below bel hw')).mono fun _ _ ⟨he, hb⟩ => ⟨he, seq_below hw' hb⟩ : ∀ w', Below w1.heap.size w1 w' → Calls Try.prog 9 #[.agg #[.int .i64 of, .int .i64 cl, .int .u64 (raw : Nat)], .int .i64 self, .slice ad len cap] w' fun r w'' => r = .returned (.int .u64 (valF of cl raw self T : Nat)) ∧ Below w1.heap.size w1 w'')
    have k0 := (fun (w' : World) (hw' : Below w1.heap.size w1 w') => (C0.out w').mono fun _ _ ⟨he, hb⟩ => ⟨he, seq_below hw' hb⟩ : ∀ w', Below w1.heap.size w1 w' → Calls Try.prog 9 #[.agg #[.int .i64 of, .int .i64 cl, .int .u64 (raw : Nat)], .int .i64 self, .slice none 0 0] w' fun r w'' => r = .returned (.int .u64 (valF of cl raw self [] : Nat)) ∧ Below w1.heap.size w1 w'')
    have e2 := fun (w' : World) (hw' : Below w1.heap.size w1 w') => arg_cells ((hw'.block _ (lt_of_block hq)).trans hq)
    rw [ev1] at k1
    rw [ev0] at k0
    clear ev1 ev0
    refine region_below (by kernel_rfl) (by kernel_rfl) ?_
    repeat (first | go_big_quiet_skip | (go_big_quiet_want; go_big_quiet_op; first | go_big_quiet_on | (refine ⟨_, fun _ _ => rfl, ?_⟩; go_big_quiet_on) | (with_reducible refine ⟨_, k1, ?_⟩; go_big_quiet_on) | (with_reducible refine ⟨_, k0, ?_⟩; go_big_quiet_on) | (refine ⟨.bool false, ?_, ?_⟩; (focus (intro w' hw'; simp [go_sem, Result.andThen, h0]; done)); go_big_quiet_on) | (refine ⟨.agg #[.int .i64 of, .int .i64 cl, .int .u64 (raw : Nat)], ?_, ?_⟩; (focus (intro w' hw'; obtain ⟨l0, l1, l2⟩ := e2 w' hw'; simp [l0, l1, l2, Result.andThen]; done)); go_big_quiet_on) | (refine ⟨.int .i64 of, ?_, ?_⟩; (focus (intro w' hw'; obtain ⟨l0, l1, l2⟩ := e2 w' hw'; simp [l0, Result.andThen]; done)); go_big_quiet_on) | (refine ⟨.int .u64 (raw : Nat), ?_, ?_⟩; (focus (intro w' hw'; obtain ⟨l0, l1, l2⟩ := e2 w' hw'; simp [l2, Result.andThen]; done)); go_big_quiet_on) | (refine ⟨.bool true, ?_, ?_⟩; (focus (intro w' hw'; simp [go_sem, Result.andThen]; done)); go_big_quiet_on)))
    refine wpQuiet_nil ?_
    intro w8 hb8
    clear k0 e2 k1
    replace hq := (hb8.block _ (lt_of_block hq)).trans hq
    replace bel := seq_below bel hb8
    clear hb8 C0
    obtain ⟨y0, y1, y2⟩ := arg_cells hq
    go_upto_region 3 with (go_at_call 9; with_reducible refine (C1.out _ bel).mono ?_; rintro r w5 ⟨rfl, b⟩; replace bel := seq_below bel b; replace hq := (b.block _ (lt_of_block hq)).trans hq; clear b y0 y1 y2)
    clear C1
    obtain ⟨fx, hfx⟩ : ∃ fx, valF of cl raw self T = fx := ⟨_, rfl⟩
    rw [hfx]
    replace hfx := hid1 hfx
    have is : Ls w5 w5 (.slice none 0 0) 0 T more [] := ⟨World.ownsRow_nil _ _ _ _, fun i L hi => by omega, Below.refl _ _⟩
    have BW := hid1 bel
    have hk0 : Hid (false = true → ∃ (i : Nat) (L : List Nat), i < 0 ∧ T[i]? = some L ∧ 0 ≤ of ∧ of < (L.length : Int) ∧ whoF cl self = i) := hid1 (fun h => by cases h)
    go_upto_region 6 with fail
    have hQ : ∀ wr, Below w5.heap.size w5 wr → wr.heap[w.heap.size]? = some (.cells #[.int .i64 of, .int .i64 cl, .int .u64 (raw : Nat)] 24 (0, 0)) := fun wr b => (b.block _ (lt_of_block hq)).trans hq
    replace hQ := hid1 hQ
    generalize hbc : w.heap.size = bc at hq hQ ⊢
    replace hbc := hid1 hbc
    go_loopw [11, 12, 13] (fun l kn i wr => ∃ (n : Nat) (kb : Bool) (xs : List Value), n ≤ len ∧ i = .int .i64 n ∧ kn = .bool kb ∧ Ls w5 wr l n T more xs ∧ Hid (kb = true → ∃ (i : Nat) (L : List Nat), i < n ∧ T[i]? = some L ∧ 0 ≤ of ∧ of < (L.length : Int) ∧ whoF cl self = i)) (fun _ _ i _ => len - (intOf i).toNat)
    case atStart => exact ⟨0, false, [], Nat.zero_le _, rfl, rfl, is, hk0⟩
    case round =>
      clear is hk0 hq bel
      obtain ⟨n, kb, xs, hn, rfl, rfl, is, hk⟩ := hrel
      by_cases hlt : n < len
      · have hl1 : (n : Int) < (len : Int) := by omega
        have hl0 : (0 : Int) ≤ (n : Int) := by omega
        have e3 : IntKind.i64.wrap ((n : Int) + 1) = ((n + 1 : Nat) : Int) := by rw [IntKind.wrap_i64]; omega
        obtain ⟨L, hL⟩ : ∃ L, T[n]? = some L := ⟨_, List.getElem?_eq_getElem (by have := hl.out; omega)⟩
        obtain ⟨b, off, a, c, hA, hbs, z0, hR, hLb⟩ := HT.out _ (seq_below BW.out is.bel) _ L hL
        have hLB := hid1 (hB.out L (List.mem_of_getElem? hL))
        obtain ⟨ln, hln⟩ : ∃ ln, L.length = ln := ⟨_, rfl⟩
        rw [hln] at z0 hLb
        replace hln := hid1 hln
        replace hL := hid1 hL
        replace hR := hid1 hR
        subst hA
        generalize hk2 : n + 1 = n2 at *
        replace hk2 := hid1 hk2
        obtain ⟨ad1, cp1, hv1⟩ := own_form is.own
        subst hv1
        rename_i wr
        have bA := alloc_below wr (.cells #[] 22)
        have hE := new_obj wr (.cells #[] 22)
        have own0 : (wr.alloc (.cells #[] 22)).ownsRow wr.heap.size 22 1 (.slice (some ⟨wr.heap.size, 0, none⟩) 0 0) 0 (us []) := ⟨rfl, .inr ⟨wr.heap.size, 0, #[], rfl, Nat.le_refl _, hE, Nat.le_refl _, Nat.zero_le _, rfl, rfl⟩⟩
        have hRA := hid1 (hR.out.below bA)
        have hbL : (0 + L.length) * 8 ≤ 140737488355328 := by have := hLB.out; omega
        replace hbL := hid1 hbL
        replace own0 := hid1 own0
        clear hE hR
        go_upto_region 9 with (first
          | (at_builtin; refine wpList_append_us rfl _ _ rfl _ 0 _ [] rfl own0.out _ ln c L rfl hln.out.symm hRA.out hbL.out bA.size ?_; intro v1 w2 own1 g1; replace bA := below_grown bA g1 (fun x hx => by cases hx; exact Nat.le_refl _) bA.size; clear own0 g1 hRA; have bB := alloc_below w2 (.cells #[.int .u64 (more : Nat)] 22); have hRB := hid1 (rd_one w2 more); replace own1 := hid1 (own_below own1 bB); replace bB := seq_below bA bB; clear bA)
          | (at_builtin; refine wpList_append_us rfl _ _ rfl _ _ _ _ rfl own1.out _ 1 1 [more] rfl rfl hRB.out (by have := hLB.out; simp only [List.length_cons, List.length_nil]; omega) bB.size ?_; intro v2 w3 own2 g2; replace bB := below_grown bB g2 (fun x hx => (own1.out.lt x hx).1) bB.size; clear own1 g2 hRB; obtain ⟨ad2, cp2, hv2⟩ := own_form own2; generalize 0 + L.length + [more].length = q2 at own2 hv2; subst hv2; have hU := RowU.of_own own2 (by simp); have bC := alloc_below w3 (.cells #[.slice ad2 q2 cp2] 36); replace hU := hid1 (hU.below bC); replace bC := seq_below bB bC; have is3 := is.below bC; clear bB own2)
          | (at_builtin; refine wpList_append_own _ rfl _ _ 25 rfl w5.heap.size 36 i1 _ 1 24 Try.underlying25 hj hy0 hy1 hy2 rfl (by decide) _ _ _ rfl is3.own ⟨_, 0, none⟩ 1 1 [.slice ad2 q2 cp2] rfl rfl (fun j u hj => new_news _ _ _ j u hj) (by intro u hu; obtain rfl := List.mem_singleton.1 hu; rfl) ?c3 ?c4 ?c5 ?_)); rotate_left
        case c3 => unfold maxLen; omega
        case c4 => omega
        case c5 => exact is3.bel.size
        intro v' w4 hown hgrow _
        have is4 := is3.grow hL.out (by have := hU.out; rw [List.nil_append] at this; exact this) hown hgrow
        rw [hk2.out] at is4
        clear is3 hU hown hgrow is hLB hbL bC z0
        obtain ⟨ad4, cp4, hv4⟩ := own_form is4.own
        subst hv4
        obtain ⟨y0, y1, y2⟩ := arg_cells (hQ.out _ is4.bel)
        cases kb with
        | true => obtain ⟨_, _, _, _, h, _⟩ := hk.out rfl; exact absurd h (by omega)
        | false =>
          clear hk
          go_upto_region 9 with fail
          go_quiet (fail)
          go_wp2
          go_roundw
          case rel => exact ⟨n2, false, _, by have := hk2.out; omega, rfl, rfl, is4.below (drewN_below (Below.refl _ _) _), hid1 (fun h => by cases h)⟩
          case measure => (have := hk2.out; simp [intOf]; omega)
      · obtain rfl : n = len := by omega
        have hl1 : ¬ (n : Int) < (n : Int) := by omega
        rename_i wr
        obtain ⟨ad1, cp1, hv1⟩ := own_form is.own
        subst hv1
        have hT2 := is.rd hl.out hB.out
        have hq := hQ.out _ is.bel
        have belr := seq_below BW.out is.bel
        obtain ⟨y0, y1, y2⟩ := arg_cells hq
        cases kb with
        | true =>
          have hsm := raw_same (raw := raw) (more := more) (hk.out rfl)
          have k1 : Calls Try.prog 9 #[.agg #[.int .i64 of, .int .i64 cl, .int .u64 (raw : Nat)], .int .i64 self, .slice ad1 n cp1] wr fun r w'' => r = .returned (.int .u64 (valF of cl raw self (T.map fun L => L ++ [more]) : Nat)) ∧ Below wr.heap.size wr w'' := value_any cp1 (by rw [List.length_map]; exact hl.out) hT2 (by omega) of cl raw self
          rw [hsm, hfx.out] at k1
          clear hsm hk hT2 hq
          go_wp2_with (first
            | (go_at_call 9; with_reducible refine k1.mono ?_; rintro r w5 ⟨rfl, b⟩; replace belr := seq_below belr b; clear b)
            | (go_at_call 11; with_reducible refine (awake16 _).mono ?_; rintro r w6 ⟨rfl, b⟩; replace belr := seq_below belr b))
          go_ret
          exact ⟨rfl, belr⟩
        | false =>
          clear hk hT2 hq
          go_wp2_with (go_at_call 11; with_reducible refine (awake16 _).mono ?_; rintro r w6 ⟨rfl, b⟩; replace belr := seq_below belr b)
          go_ret
          exact ⟨rfl, belr⟩
end Go.Proofs.Ytfllkacebhcbdaa
