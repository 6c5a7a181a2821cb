/- The reference's Order. -/
import Derived.Test.YthihdaloonagoaaHO
namespace Go.Proofs.Ythihdaloonagoaa
open Go.RowKit Go.Sort
set_option linter.unusedSimpArgs false
set_option linter.unusedVariables false

theorem sub_len : ∀ (n : Nat) (l : List Nat), (∀ x, x < n → x ∈ l) → n ≤ l.length
  | 0, _, _ => Nat.zero_le _
  | n + 1, l, h => by
    have hn := h n (by omega)
    have := sub_len n (l.erase n) fun x hx => (List.mem_erase_of_ne (by omega)).2 (h x (by omega))
    rw [List.length_erase_of_mem hn] at this
    have := List.length_pos_of_mem hn
    omega
theorem nod_len : ∀ (n : Nat) (l : List Nat), l.Nodup → (∀ x ∈ l, x < n) → l.length ≤ n
  | 0, l, _, h => by
    cases l with
    | nil => exact Nat.le_refl _
    | cons x l => have := h x (List.mem_cons_self ..); omega
  | n + 1, l, hd, h => by
    by_cases hn : n ∈ l
    · have h1 := nod_len n (l.erase n) (hd.erase _) fun x hx => by
        obtain ⟨h2, h3⟩ := (List.Nodup.mem_erase_iff hd).1 hx
        have := h x h3
        omega
      rw [List.length_erase_of_mem hn] at h1
      omega
    · have := nod_len n l hd fun x hx => by
        have h1 := h x hx
        have : x ≠ n := fun e => hn (e ▸ hx)
        omega
      omega
/-- The numbers that were picked: the least ones, in order. -/
structure Pk (lt : Nat → Nat → Bool) (n : Nat) (l : List Nat) : Prop where
  nd : l.Nodup
  rg : ∀ x ∈ l, x < n
  srt : l.Pairwise fun x y => rl lt x y = true
  low : ∀ x, x < n → x ∉ l → ∀ y ∈ l, rl lt y x = true
theorem Pk.add {lt : Nat → Nat → Bool} {n : Nat} {l : List Nat} (h : Pk lt n l) {b : Nat} (hb : b < n) (hn : b ∉ l) (hm : ∀ x, x < n → x ∉ l → x = b ∨ rl lt b x = true) : Pk lt n (l ++ [b]) := by
  refine ⟨?_, fun x hx => ?_, ?_, fun x hx hxl y hy => ?_⟩
  · rw [List.nodup_append]
    refine ⟨h.nd, by simp, fun a ha c hc e => ?_⟩
    obtain rfl := List.mem_singleton.1 hc
    exact hn (e ▸ ha)
  · rcases List.mem_append.1 hx with hx | hx
    · exact h.rg x hx
    · obtain rfl := List.mem_singleton.1 hx; exact hb
  · rw [List.pairwise_append]
    refine ⟨h.srt, by simp, fun a ha c hc => ?_⟩
    obtain rfl := List.mem_singleton.1 hc
    exact h.low c hb hn a ha
  · have hxl' : x ∉ l := fun q => hxl (List.mem_append_left _ q)
    rcases List.mem_append.1 hy with hy | hy
    · exact h.low x hx hxl' y hy
    · obtain rfl := List.mem_singleton.1 hy
      rcases hm x hx hxl' with e | e
      · exact absurd (e ▸ List.mem_append_right _ (List.mem_singleton.2 rfl)) hxl
      · exact e
theorem Pk.all {lt : Nat → Nat → Bool} {n : Nat} {l : List Nat} (h : Pk lt n l) (hl : l.length = n) : IsOrd lt n l := by
  refine ⟨List.perm_iff_count.2 fun a => ?_, h.srt⟩
  rw [h.nd.count, List.nodup_range.count]
  have : a ∈ l ↔ a ∈ List.range n := by
    rw [List.mem_range]
    refine ⟨h.rg a, fun ha => Decidable.byContradiction fun hn => ?_⟩
    have := nod_len n (a :: l) (List.nodup_cons.2 ⟨hn, h.nd⟩) fun x hx => by
      rcases List.mem_cons.1 hx with rfl | hx
      · exact ha
      · exact h.rg x hx
    simp only [List.length_cons] at this
    omega
  by_cases q : a ∈ l
  · rw [if_pos q, if_pos (this.1 q)]
  · rw [if_neg q, if_neg (fun r => q (this.2 r))]
/-- The least one so far, of those that weren't picked. -/
def Best (lt : Nat → Nat → Bool) (l : List Nat) (i : Nat) (kb : Int) : Prop := (kb = -1 ∧ ∀ x, x < i → x ∈ l) ∨ ∃ b : Nat, kb = (b : Int) ∧ b < i ∧ b ∉ l ∧ ∀ x, x < i → x ∉ l → x = b ∨ rl lt b x = true
theorem Best.skip {lt : Nat → Nat → Bool} {l : List Nat} {i : Nat} {kb : Int} (h : Best lt l i kb) (hi : i ∈ l) : Best lt l (i + 1) kb := by
  rcases h with ⟨h1, h2⟩ | ⟨b, h1, h2, h3, h4⟩
  · exact .inl ⟨h1, fun x hx => by
      by_cases q : x = i
      · exact q ▸ hi
      · exact h2 x (by omega)⟩
  · exact .inr ⟨b, h1, by omega, h3, fun x hx hn => h4 x (by
      have : x ≠ i := fun e => hn (e ▸ hi)
      omega) hn⟩
theorem Best.first {lt : Nat → Nat → Bool} {l : List Nat} {i : Nat} {kb : Int} (h : Best lt l i kb) (hk : kb < 0) (hi : i ∉ l) : Best lt l (i + 1) (i : Int) := by
  rcases h with ⟨h1, h2⟩ | ⟨b, h1, _⟩
  · exact .inr ⟨i, rfl, by omega, hi, fun x hx hn => by
      by_cases q : x = i
      · exact .inl q
      · exact absurd (h2 x (by omega)) hn⟩
  · omega
theorem Best.turn {lt : Nat → Nat → Bool} (hS : SWO lt) {l : List Nat} {i b : Nat} (h : Best lt l i (b : Int)) (hi : i ∉ l) (hl : lt i b = true) : Best lt l (i + 1) (i : Int) := by
  rcases h with ⟨h1, _⟩ | ⟨c, h1, h2, h3, h4⟩
  · omega
  · obtain rfl : b = c := by omega
    have e : rl lt i b = true := by rw [rl_dn h2]; exact hl
    exact .inr ⟨i, rfl, by omega, hi, fun x hx hn => by
      by_cases q : x = i
      · exact .inl q
      · rcases h4 x (by omega) hn with r | r
        · exact .inr (r ▸ e)
        · exact .inr (rl_trans hS e r)⟩
theorem Best.stay {lt : Nat → Nat → Bool} (hS : SWO lt) {l : List Nat} {i b : Nat} (h : Best lt l i (b : Int)) (hi : i ∉ l) (hl : lt i b = false) : Best lt l (i + 1) (b : Int) := by
  rcases h with ⟨h1, _⟩ | ⟨c, h1, h2, h3, h4⟩
  · omega
  · obtain rfl : b = c := by omega
    exact .inr ⟨b, rfl, by omega, h3, fun x hx hn => by
      by_cases q : x = i
      · right; rw [q, rl_up hS h2, hl]; rfl
      · exact h4 x (by omega) hn⟩
theorem info3_parts : ∃ i, Try.prog.info? 3 = some i ∧ i.zero = some (.int .i64 0) ∧ i.size = 1 ∧ i.bytes = 8 := by
  have h := Try.info3'
  cases hi : Try.prog.info? 3 with
  | none => rw [hi] at h; cases h
  | some i =>
    rw [hi] at h
    simp only [Option.map_some, Option.some.injEq, Prod.mk.injEq] at h
    exact ⟨i, rfl, h.1, h.2.1, h.2.2⟩
theorem own_kept {w w' : World} {base : Nat} {e : TypeId} {size : Nat} {v : Value} {n : Nat} {xs : List Value} (h : w.ownsRow base e size v n xs) (b : ∀ g, v.ownBlock = some g → w'.heap[g]? = w.heap[g]?) : w'.ownsRow base e size v n xs := by
  refine ⟨h.1, ?_⟩
  rcases h.2 with hn | ⟨g, cap, cur, rfl, hb, hgg, rest⟩
  · exact .inl hn
  · exact .inr ⟨g, cap, cur, rfl, hb, (b g rfl).trans hgg, rest⟩
/-- The order under way. -/
structure Ro (w wr : World) (g n : Nat) (v : Value) (l : List Nat) (p : Nat → Bool) : Prop where
  own : wr.ownsRow w.heap.size 3 1 v l.length (l.map nv)
  used : wr.heap[g]? = some (.cells (bolA n p) 4 (0, 0))
  bel : Below w.heap.size w wr
  met : ∀ x, p x = true ↔ x ∈ l
theorem Ro.below {w wr wr' : World} {g n : Nat} {v : Value} {l : List Nat} {p : Nat → Bool} (h : Ro w wr g n v l p) (b : Below wr.heap.size wr wr') : Ro w wr' g n v l p :=
  ⟨own_below h.own b, (b.block _ (lt_of_block h.used)).trans h.used, seq_below h.bel b, h.met⟩
theorem own_cells {w : World} {base e size n : Nat} {v : Value} {xs : List Value} (h : w.ownsRow base e size v n xs) {g : Nat} (hg : v.ownBlock = some g) : base ≤ g ∧ ∃ cur, w.heap[g]? = some (.cells cur e (0, 0)) := by
  rcases h.2 with ⟨rfl, _⟩ | ⟨g', cap, cur, rfl, hb, hh, _⟩
  · cases hg
  · obtain rfl : g' = g := by simpa [Value.ownBlock] using hg
    exact ⟨hb, cur, hh⟩
theorem Ro.rdz {w wr : World} {g n m cp : Nat} {a : Option Addr} {l : List Nat} {p : Nat → Bool} (h : Ro w wr g n (.slice a m cp) l p) : RdZ wr a (l.map fun (x : Nat) => (x : Int)) := fun i x hi => by
  rw [List.getElem?_map] at hi
  cases hl : l[i]? with
  | none => rw [hl] at hi; cases hi
  | some y =>
    rw [hl] at hi
    obtain rfl : (y : Int) = x := by simpa using hi
    have hlt := (List.getElem?_eq_some_iff.1 hl).1
    rcases h.own.2 with ⟨_, h0⟩ | ⟨g', cap, cur, hv, _, hh, _, _, _, h5⟩
    · omega
    · simp only [Value.slice.injEq] at hv
      obtain ⟨rfl, _, rfl⟩ := hv
      refine ⟨g', 0, rfl, lt_of_block hh, ?_⟩
      simp only [World.cell?, hh, Nat.zero_add]
      show cur[i]? = _
      have e : (cur.toList.take (l.length * 1))[i]? = some (nv y) := by rw [h5, List.getElem?_map, hl]; rfl
      rw [Nat.mul_one, List.getElem?_take, if_pos hlt] at e
      simpa [nv] using e
set_option maxRecDepth 100000 in
set_option maxHeartbeats 16000000 in
theorem rorder_any {w : World} {ad : Option Addr} {n : Nat} (cap : Nat) {E : List Ev} (hE : n = E.length) (hR : RdEv w ad E) (hn : n < 400000000) :
    Calls Try.prog 12 #[.slice ad n cap] w fun r w' => ∃ a, (∃ cp, r = .returned (.slice a n cp)) ∧ (∃ l, IsOrd (ltN (evP E)) n l ∧ RdZ w' a (l.map fun (x : Nat) => (x : Int))) ∧ Below w.heap.size w w' := by
  have hS := hid1 (evP_swo E)
  obtain ⟨i3, hi3, hz3, hs3, hb3⟩ := info3_parts
  have hI3 := hid1 (And.intro hi3 (And.intro hz3 (And.intro hs3 hb3)))
  clear hi3 hz3 hs3 hb3
  have hR := hid1 hR
  have hmk : ∀ wr, (Instr.makeSlice 43 (.int .i64 (n : Nat)) (.int .i64 (n : Nat))).run Try.prog wr = .ok (.slice (some ⟨wr.heap.size, 0, none⟩) n n) (wr.alloc (.cells (bolA n fun _ => false) 4)) := fun wr => by
    rw [← bolA_made]
    exact run_make_row' 43 4 (.bool false) 1 Try.underlying43 Try.info4' rfl .i64 .i64 n (by omega) (by omega) wr
  have hg := new_obj w (.cells (bolA n fun _ => false) 4)
  have bG := alloc_below w (.cells (bolA n fun _ => false) 4)
  replace hE := hid1 hE
  go_enter Try.func12, Try.ntmps12
  go_upto_region 3 with fail
  generalize World.alloc _ _ = w2 at *
  obtain ⟨g, hgs⟩ : ∃ g, w.heap.size = g := ⟨_, rfl⟩
  have hgw := hid1 (show w.heap.size ≤ g by omega)
  rw [hgs] at hg ⊢
  clear hgs hmk
  have I0 := hid1 (show Ro w w2 g n (.slice none 0 0) [] (fun _ => false) from ⟨World.ownsRow_nil _ _ _ _, hg, bG, fun x => by simp⟩)
  clear hg bG
  go_wp2
  go_loopg [3, 5] n (fun g1 vo vi wr => ∃ (l : List Nat) (p : Nat → Bool), vi = .int .i64 (l.length : Nat) ∧ l.length ≤ n ∧ n - l.length ≤ g1 ∧ Hid (Ro w wr g n vo l p) ∧ Hid (Pk (ltN (evP E)) n l))
  case atStart => exact ⟨[], fun _ => false, by go_num, Nat.zero_le _, by simp, I0, hid1 ⟨by simp, by simp, by simp, by simp⟩⟩
  case round =>
    clear I0
    obtain ⟨l, p, rfl, hl, hg1, R, P⟩ := hrel
    obtain ⟨ao, co, hvo⟩ := own_form R.out.own
    subst hvo
    obtain ⟨t, ht⟩ : ∃ t, l.length = t := ⟨_, rfl⟩
    rw [ht] at hl hg1 ⊢
    by_cases hlt : t < n
    · have hltz : (t : Int) < (n : Int) := by omega
      have htt := hid1 ht
      clear ht
      go_wp2
      rename World => wq
      go_loopg [6, 7] n (fun g2 vk vi w3 => ∃ (i : Nat) (kb : Int), vi = .int .i64 i ∧ vk = .int .i64 kb ∧ i ≤ n ∧ n - i ≤ g2 ∧ Hid (Below wq.heap.size wq w3) ∧ Hid (Best (ltN (evP E)) l i kb))
      case atStart => exact ⟨0, -1, by go_num, by first | rfl | go_num, Nat.zero_le _, by omega, hid1 (Below.refl _ _), hid1 (.inl ⟨rfl, fun x h => by omega⟩)⟩
      case round =>
        obtain ⟨i, kb, rfl, rfl, hi, hg2, b3, B⟩ := hrel
        by_cases hli : i < n
        · have hliz : (i : Int) < (n : Int) := by omega
          have R3 := hid1 (R.out.below b3.out)
          have k0 := hid1 (fun w' (b : Below wr.heap.size wr w') => (by
              have e := (b.block _ (lt_of_block R3.out.used)).trans R3.out.used
              simp only [World.cell?, e]
              show (bolA n p)[i]? = _
              rw [bolA_at, if_pos hli] : w'.cell? ⟨g, i, none⟩ = some (.bool (p i))))
          cases hp : p i with
          | true =>
            rw [hp] at k0
            have B2 := hid1 (B.out.skip ((R3.out.met i).1 hp))
            go_upto_region 10 with fail
            refine region_below (by kernel_rfl) (by kernel_rfl) ?_
            repeat (first | go_big_quiet_skip | (go_big_quiet_want; go_big_quiet_op; first | go_big_quiet_on | (refine ⟨_, fun _ _ => rfl, ?_⟩; go_big_quiet_on) | (refine ⟨.bool true, ?_, ?_⟩; (focus (intro w' hw'; have l := k0.out w' hw'; simp [l, Result.andThen]; done)); go_big_quiet_on)))
            refine wpQuiet_nil ?_
            intro w8 hb8
            replace hb8 := hid1 hb8
            go_wp2
            go_roundg (n - (i + 1))
            case measure => omega
            case rel => exact ⟨i + 1, kb, by go_num, rfl, by omega, Nat.le_refl _, hid1 (seq_below b3.out hb8.out), B2⟩
          | false =>
            rw [hp] at k0
            have hil : i ∉ l := fun q => by rw [(R3.out.met i).2 q] at hp; cases hp
            by_cases h1 : kb < 0
            · have d1 : decide (kb < 0) = true := decide_eq_true h1
              have B2 := hid1 (B.out.first h1 hil)
              go_upto_region 10 with fail
              refine region_below (by kernel_rfl) (by kernel_rfl) ?_
              repeat (first | go_big_quiet_skip | (go_big_quiet_want; go_big_quiet_op; first | go_big_quiet_on | (refine ⟨_, fun _ _ => rfl, ?_⟩; go_big_quiet_on) | (refine ⟨.bool false, ?_, ?_⟩; (focus (intro w' hw'; have l := k0.out w' hw'; simp [l, Result.andThen]; done)); go_big_quiet_on)))
              refine wpQuiet_nil ?_
              intro w8 hb8
              replace hb8 := hid1 hb8
              go_wp2
              go_roundg (n - (i + 1))
              case measure => omega
              case rel => exact ⟨i + 1, (i : Int), by go_num, rfl, by omega, Nat.le_refl _, hid1 (seq_below b3.out hb8.out), B2⟩
            · have d1 : decide (kb < 0) = false := decide_eq_false h1
              obtain ⟨b, hb⟩ : ∃ b : Nat, kb = (b : Int) := ⟨kb.toNat, by omega⟩
              subst hb
              have hbn : b < n := by
                rcases B.out with ⟨q, _⟩ | ⟨c, q, q2, _⟩
                · omega
                · omega
              have hbz : (b : Int) < (n : Int) := by omega
              obtain ⟨e, he⟩ : ∃ e, E[i]? = some e := ⟨_, List.getElem?_eq_getElem (by have := hE.out; omega)⟩
              obtain ⟨f, hf⟩ : ∃ e, E[b]? = some e := ⟨_, List.getElem?_eq_getElem (by have := hE.out; omega)⟩
              obtain ⟨bE, oE, ha, hbE, hce⟩ := hR.out.at he
              subst ha
              obtain ⟨bE', oE', ha, hbE', hcf⟩ := hR.out.at hf
              simp only [Option.some.injEq, Addr.mk.injEq] at ha
              obtain ⟨rfl, rfl, -⟩ := ha
              have k1 := hid1 (fun w' (b : Below wr.heap.size wr w') => hce w' (seq_below R3.out.bel b))
              have k2 := hid1 (fun w' (b : Below wr.heap.size wr w') => hcf w' (seq_below R3.out.bel b))
              obtain ⟨ra, hra⟩ : ∃ ra, lsB e f = ra := ⟨_, rfl⟩
              have ca : ∀ w, Calls Try.prog 21 #[.agg #[.int .i64 e.cl, .int .i64 e.op, .int .i64 e.bg, .int .i64 e.pt, .int .i64 e.en, .bool e.bh, .int .i64 e.kd, .int .i64 e.nn, .int .u64 (e.hh : Nat), .int .u64 (e.hx : Nat), .int .u64 (e.hy : Nat), .int .i64 e.er, .int .u64 (e.ah : Nat), .bool e.ay], .agg #[.int .i64 f.cl, .int .i64 f.op, .int .i64 f.bg, .int .i64 f.pt, .int .i64 f.en, .bool f.bh, .int .i64 f.kd, .int .i64 f.nn, .int .u64 (f.hh : Nat), .int .u64 (f.hx : Nat), .int .u64 (f.hy : Nat), .int .i64 f.er, .int .u64 (f.ah : Nat), .bool f.ay]] w fun r w' => r = .returned (.bool ra) ∧ Below w.heap.size w w' := fun w => by rw [← hra]; exact less_any e f w
              replace ca := hid1 ca
              have hlt2 : ltN (evP E) i b = ra := by
                rw [← hra]
                simp only [ltN, evP, List.getD_eq_getElem?_getD, he, hf, Option.getD_some]
                rfl
              clear hce hcf he hf hbE hbE'
              replace hra := hid1 hra
              cases ra with
              | true =>
                have B2 := hid1 (B.out.turn hS.out hil hlt2)
                replace hlt2 := hid1 hlt2
                go_upto_region 10 with fail
                refine region_below (by kernel_rfl) (by kernel_rfl) ?_
                repeat (first | go_big_quiet_skip | (go_big_quiet_want; go_big_quiet_op; first | go_big_quiet_on | (refine ⟨_, fun _ _ => rfl, ?_⟩; go_big_quiet_on) | (refine ⟨.bool false, ?_, ?_⟩; (focus (intro w' hw'; have l := k0.out w' hw'; simp [l, Result.andThen]; done)); go_big_quiet_on) | (refine ⟨.agg #[.int .i64 e.cl, .int .i64 e.op, .int .i64 e.bg, .int .i64 e.pt, .int .i64 e.en, .bool e.bh, .int .i64 e.kd, .int .i64 e.nn, .int .u64 (e.hh : Nat), .int .u64 (e.hx : Nat), .int .u64 (e.hy : Nat), .int .i64 e.er, .int .u64 (e.ah : Nat), .bool e.ay], ?_, ?_⟩; (focus (intro w' hw'; obtain ⟨l0, l1, l2, l3, l4, l5, l6, l7, l8, l9, l10, l11, l12, l13⟩ := k1.out w' hw'; simp [l0, l1, l2, l3, l4, l5, l6, l7, l8, l9, l10, l11, l12, l13, Result.andThen]; done)); go_big_quiet_on) | (refine ⟨.agg #[.int .i64 f.cl, .int .i64 f.op, .int .i64 f.bg, .int .i64 f.pt, .int .i64 f.en, .bool f.bh, .int .i64 f.kd, .int .i64 f.nn, .int .u64 (f.hh : Nat), .int .u64 (f.hx : Nat), .int .u64 (f.hy : Nat), .int .i64 f.er, .int .u64 (f.ah : Nat), .bool f.ay], ?_, ?_⟩; (focus (intro w' hw'; obtain ⟨l0, l1, l2, l3, l4, l5, l6, l7, l8, l9, l10, l11, l12, l13⟩ := k2.out w' hw'; simp [l0, l1, l2, l3, l4, l5, l6, l7, l8, l9, l10, l11, l12, l13, Result.andThen]; done)); go_big_quiet_on) | (with_reducible refine ⟨_, (fun w' hw' => (ca.out w').mono fun _ _ ⟨he, hb⟩ => ⟨he, seq_below hw' hb⟩), ?_⟩; go_big_quiet_on)))
                refine wpQuiet_nil ?_
                intro w8 hb8
                replace hb8 := hid1 hb8
                go_wp2
                go_roundg (n - (i + 1))
                case measure => omega
                case rel => exact ⟨i + 1, (i : Int), by go_num, rfl, by omega, Nat.le_refl _, hid1 (seq_below b3.out hb8.out), B2⟩
              | false =>
                have B2 := hid1 (B.out.stay hS.out hil hlt2)
                replace hlt2 := hid1 hlt2
                go_upto_region 10 with fail
                refine region_below (by kernel_rfl) (by kernel_rfl) ?_
                repeat (first | go_big_quiet_skip | (go_big_quiet_want; go_big_quiet_op; first | go_big_quiet_on | (refine ⟨_, fun _ _ => rfl, ?_⟩; go_big_quiet_on) | (refine ⟨.bool false, ?_, ?_⟩; (focus (intro w' hw'; have l := k0.out w' hw'; simp [l, Result.andThen]; done)); go_big_quiet_on) | (refine ⟨.agg #[.int .i64 e.cl, .int .i64 e.op, .int .i64 e.bg, .int .i64 e.pt, .int .i64 e.en, .bool e.bh, .int .i64 e.kd, .int .i64 e.nn, .int .u64 (e.hh : Nat), .int .u64 (e.hx : Nat), .int .u64 (e.hy : Nat), .int .i64 e.er, .int .u64 (e.ah : Nat), .bool e.ay], ?_, ?_⟩; (focus (intro w' hw'; obtain ⟨l0, l1, l2, l3, l4, l5, l6, l7, l8, l9, l10, l11, l12, l13⟩ := k1.out w' hw'; simp [l0, l1, l2, l3, l4, l5, l6, l7, l8, l9, l10, l11, l12, l13, Result.andThen]; done)); go_big_quiet_on) | (refine ⟨.agg #[.int .i64 f.cl, .int .i64 f.op, .int .i64 f.bg, .int .i64 f.pt, .int .i64 f.en, .bool f.bh, .int .i64 f.kd, .int .i64 f.nn, .int .u64 (f.hh : Nat), .int .u64 (f.hx : Nat), .int .u64 (f.hy : Nat), .int .i64 f.er, .int .u64 (f.ah : Nat), .bool f.ay], ?_, ?_⟩; (focus (intro w' hw'; obtain ⟨l0, l1, l2, l3, l4, l5, l6, l7, l8, l9, l10, l11, l12, l13⟩ := k2.out w' hw'; simp [l0, l1, l2, l3, l4, l5, l6, l7, l8, l9, l10, l11, l12, l13, Result.andThen]; done)); go_big_quiet_on) | (with_reducible refine ⟨_, (fun w' hw' => (ca.out w').mono fun _ _ ⟨he, hb⟩ => ⟨he, seq_below hw' hb⟩), ?_⟩; go_big_quiet_on)))
                refine wpQuiet_nil ?_
                intro w8 hb8
                replace hb8 := hid1 hb8
                go_wp2
                go_roundg (n - (i + 1))
                case measure => omega
                case rel => exact ⟨i + 1, (b : Int), by go_num, rfl, by omega, Nat.le_refl _, hid1 (seq_below b3.out hb8.out), B2⟩
        · obtain rfl : i = n := by omega
          have hliz : ¬ (i : Int) < (i : Int) := by omega
          have R3 := hid1 (R.out.below b3.out)
          obtain ⟨b, hkb, hbi, hbl, hbm⟩ : ∃ b : Nat, kb = (b : Int) ∧ b < i ∧ b ∉ l ∧ ∀ x, x < i → x ∉ l → x = b ∨ rl (ltN (evP E)) b x = true := by
            rcases B.out with ⟨_, q⟩ | q
            · have := sub_len i l q
              have := htt.out
              omega
            · exact q
          subst hkb
          have P2 := hid1 (P.out.add hbi hbl hbm)
          have hbz : (b : Int) < (i : Int) := by omega
          have c0 : wr.cell? ⟨g, b, none⟩ = some (.bool (p b)) := by
            simp only [World.cell?, R3.out.used]
            show (bolA i p)[b]? = _
            rw [bolA_at, if_pos hbi]
          have f0 := cells_freeH R3.out.used b
          have hm := R3.out.met
          have R4 := hid1 (show Ro w (wr.setCell ⟨g, b, none⟩ (.bool true)) g i (.slice ao l.length co) l (fun j => p j || decide (j = b)) → True from fun _ => trivial)
          have ng : ∀ q, (Value.slice ao l.length co).ownBlock = some q → q ≠ g := fun q hq => by
            obtain ⟨_, cur, hc⟩ := own_cells R3.out.own hq
            exact ne_cellsH hc R3.out.used (by decide)
          have own4 := hid1 (own_kept (w' := wr.setCell ⟨g, b, none⟩ (.bool true)) R3.out.own fun q hq => Below.heap_setCell _ _ _ _ (ng q hq))
          have used4 := hid1 (show (wr.setCell ⟨g, b, none⟩ (.bool true)).heap[g]? = some (.cells (bolA i fun j => p j || decide (j = b)) 4 (0, 0)) by rw [← bolA_set p hbi]; exact heap_putH R3.out.used _)
          have bel4 := hid1 (R3.out.bel.setCell (p := ⟨g, b, none⟩) hgw.out (.bool true))
          replace hm := hid1 hm
          replace ng := hid1 ng
          clear hbm R4
          go_upto_region 13 with fail
          generalize wr.setCell ⟨g, b, none⟩ (.bool true) = w4 at *
          clear c0 f0 R3
          have bN := alloc_below w4 (.cells #[.int .i64 (b : Int)] 3)
          have own5 := hid1 (own_below own4.out bN)
          have used5 := hid1 ((bN.block _ (lt_of_block used4.out)).trans used4.out)
          have bel5 := hid1 (seq_below bel4.out bN)
          have hN5 := hid1 (new_obj w4 (.cells #[.int .i64 (b : Int)] 3))
          have hl2 := htt.out
          replace hN5 := hid1 (fun (j : Nat) (u : Value) (h : ([Value.int .i64 (b : Int)] : List Value)[j]? = some u) => (by
            match j, h with
            | 0, h =>
              obtain rfl : Value.int .i64 (b : Int) = u := by simpa using h
              have e := hN5.out
              simp only [World.cell?, Addr.add, if_pos, e]
              rfl
            | j + 1, h => simp at h : (w4.alloc (.cells #[.int .i64 (b : Int)] 3)).cell? ((⟨w4.heap.size, 0, none⟩ : Addr).add j) = some u))
          rw [hl2] at own5
          go_wp2_with (at_builtin; refine wpList_append_own _ rfl _ _ 25 rfl w.heap.size 3 i3 (.int .i64 0) 1 8 Try.underlying25 hI3.out.1 hI3.out.2.1 hI3.out.2.2.1 hI3.out.2.2.2 rfl (by decide) _ t (l.map nv) rfl own5.out ⟨w4.heap.size, 0, none⟩ 1 1 [.int .i64 (b : Int)] rfl rfl hN5.out (by simp [Value.oneCell']) (by unfold maxLen; omega) (by omega) bel5.out.size ?_; intro v9 w9 own9 gr9 _; have own9 := hid1 own9; have gr9 := hid1 gr9)
          go_roundg (i - (t + 1))
          case measure => omega
          case rel =>
            have e : (l ++ [b]).length = t + 1 := by simp [hl2]
            refine ⟨l ++ [b], fun j => p j || decide (j = b), by rw [e]; go_num, by rw [e]; omega, by rw [e]; exact Nat.le_refl _, hid1 ⟨?_, ?_, ?_, fun x => ?_⟩, P2⟩
            · rw [e, List.map_append]; exact own9.out
            · refine (gr9.out.block g (lt_of_block used5.out) fun e => ?_).trans used5.out
              exact ng.out g (by rw [hl2]; exact e.symm) rfl
            · exact below_grown bel5.out gr9.out (fun x hx => (own_cells own5.out hx).1) bel5.out.size
            · simp only [Bool.or_eq_true, decide_eq_true_eq, hm.out x, List.mem_append, List.mem_singleton]
    · obtain rfl : t = n := by omega
      have hltz : ¬ (t : Int) < (t : Int) := by omega
      have hO := hid1 (P.out.all ht)
      have hZ := hid1 R.out.rdz
      have hB := hid1 R.out.bel
      clear R P
      go_wp2
      go_ret
      exact ⟨ao, ⟨co, rfl⟩, ⟨l, hO.out, hZ.out⟩, hB.out⟩
end Go.Proofs.Ythihdaloonagoaa
