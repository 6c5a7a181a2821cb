/- The Advance's step among guests; how all begins. -/
import Derived.Test.YtpfcpkkillklkaaEWd
import Derived.Test.YtpfcpkkillklkaaEOpen
import Derived.Test.YtpfcpkkillklkaaPFit
namespace Go.Proofs.Ytpfcpkkillklkaa
open Go.RowKit
open Mm (IsMem MS zeroMS)
set_option linter.unusedVariables false

theorem Gu.inv_up {ep p : Nat} {g : Gu} (h : g.inv ep p) (ha : ∀ e, g.at = some e → e = ep) : g.inv (ep + 1) p := by
  cases g with
  | fresh => trivial
  | pinning P E pc x e st => exact ⟨h.1, Nat.le_succ_of_le h.2.1, h.2.2⟩
  | inn e st => have := ha e rfl; exact ⟨h.1, .inr (by omega), h.2.2⟩
  | leaving Q e st => have := ha e rfl; exact ⟨h.1, .inr (by omega)⟩
theorem Gu.inv_at {ep p e : Nat} {g : Gu} (h : g.inv ep p) (ha : g.at = some e) : p = 2 * e + 1 ∧ (ep = e ∨ ep = e + 1) := by
  cases g with
  | fresh => simp [Gu.at] at ha
  | pinning P E pc x e st => simp [Gu.at] at ha
  | inn e' st => simp [Gu.at] at ha; subst ha; exact ⟨h.1, h.2.1⟩
  | leaving Q e' st => simp [Gu.at] at ha; subst ha; exact ⟨h.1, h.2⟩

/-- The Advance has touched the memory. -/
theorem Wd.advd {w wr w' : World} {K : Cf} {M G L A ep ep' : Nat} {pins : Nat → Nat} {T T' : Int} {cur : Array Value} {gs : Nat → Gu} (h : Wd w wr K M G L A ep pins T cur gs) (c : Chg [A, M, G] wr w') (hm : MemE w' M G K ep' pins T') (hv : ∀ i, i < K.C → (gs i).inv ep' (pins i)) : Wd w w' K M G L A ep' pins T' cur gs := by
  have hM := h.hM
  have hG := h.hG
  have hL := h.hL
  have hA := h.hA
  exact ⟨hm, h.row.chg c (by simp; omega), h.sz, h.five, fun i hi => Gu.mach_chg (h.mach i hi) c (fun b hb => by have := h.far i hi b hb; simp; omega), hv, h.far, h.apart, h.cfg.chg c (by simp; omega), c.below h.bel (by simp; omega) (Nat.le_refl _), hM, hG, hL, hA, Nat.lt_of_lt_of_le h.lt c.size⟩

/-- A step of the Advance: it isn't done, or the epoch is the next one. -/
theorem Wd.advs {w wr : World} {K : Cf} (hK : K.Ok) (hC : 1 ≤ K.C) {M G L A ep : Nat} {pins : Nat → Nat} {T : Int} {cur : Array Value} {gs : Nat → Gu} (h : Wd w wr K M G L A ep pins T cur gs) {aE ax awh : Nat} {apc : Int} (ha : AdvAt wr A K aE apc ax awh) (hi : AInv K ep gs apc ax awh) (hT : 0 ≤ T ∧ T < 1000000) (he : ep < 1000000) :
    (Calls Try.prog 14 #[.pointer (some ⟨A, 0, none⟩), .pointer (some ⟨M, 0, none⟩)] wr fun r w' => r = .returned (.bool false) ∧ Wd w w' K M G L A ep pins (T + 1) cur gs ∧ ∃ aE' apc' ax' awh', AdvAt w' A K aE' apc' ax' awh' ∧ AInv K ep gs apc' ax' awh') ∨
    (Calls Try.prog 14 #[.pointer (some ⟨A, 0, none⟩), .pointer (some ⟨M, 0, none⟩)] wr fun r w' => r = .returned (.bool true) ∧ Wd w w' K M G L A (ep + 1) pins (T + 1) cur gs ∧ w'.cell? ⟨A, 0, none⟩ = some (.int .u64 ((ep + 1 : Nat) : Int))) := by
  obtain ⟨_, a1, a2, a3⟩ := h.hA
  rcases hi with rfl | ⟨rfl, rfl, hw, hj⟩ | ⟨rfl, rfl, hj⟩
  · exact .inl ((advE_0 h.mem ha a1 a2 (by omega)).mono fun r w' ⟨hr, hm, hp, hc⟩ => ⟨hr, h.advd hc hm h.inv, _, _, _, _, hp, .inr (.inl ⟨rfl, rfl, by omega, fun j hj => by omega⟩)⟩)
  · by_cases hv : pins awh = 0 ∨ pins awh = 2 * ax + 1
    · refine .inl ((advE_1go hK h.mem ha a1 a2 (by omega) hw (by omega) hv).mono fun r w' ⟨hr, hm, hp, hc⟩ => ⟨hr, h.advd hc hm h.inv, _, _, _, _, hp, ?_⟩)
      have key : ∀ j, j < awh + 1 → ∀ e, (gs j).at = some e → e = ax := fun j hj2 e he => by
        by_cases hja : j = awh
        · subst hja
          have := Gu.inv_at (h.inv j hw) he
          omega
        · exact hj j (by omega) e he
      by_cases hC2 : K.C ≤ awh + 1
      · rw [if_pos hC2]; exact .inr (.inr ⟨rfl, rfl, fun j hj => key j (by omega)⟩)
      · rw [if_neg hC2]; exact .inr (.inl ⟨rfl, rfl, by omega, key⟩)
    · exact .inl ((advE_1stay hK h.mem ha a1 a2 (by omega) hw (by omega) (fun e => hv (.inl e)) (fun e => hv (.inr e))).mono fun r w' ⟨hr, hm, hp, hc⟩ => ⟨hr, h.advd hc hm h.inv, _, _, _, _, hp, .inr (.inl ⟨rfl, rfl, hw, hj⟩)⟩)
  · exact .inr ((advE_2y h.mem ha a1 a2 (by omega) (by omega)).mono fun r w' ⟨hr, hm, hp, hc⟩ => ⟨hr, h.advd hc hm (fun i hi => Gu.inv_up (h.inv i hi) (hj i hi)), hp.cells.1⟩)

/-- Another Advance. -/
theorem Wd.renew {w wr w' : World} {K : Cf} {M G L A A' ep : Nat} {pins : Nat → Nat} {T : Int} {cur : Array Value} {gs : Nat → Gu} (h : Wd w wr K M G L A ep pins T cur gs) (b : Below wr.heap.size wr w') (hA : wr.heap.size ≤ A') (hl : A' < w'.heap.size) : Wd w w' K M G L A' ep pins T cur gs := by
  have z := h.below b
  have hml := h.mem.lt
  have hrl := h.row.lt
  have hcl := h.cfg.lt
  exact ⟨z.mem, z.row, z.sz, z.five, z.mach, z.inv, fun i hi x hx => by have := h.far i hi x hx; have := Gu.mach_lt (h.mach i hi) x hx; omega, z.apart, z.cfg, z.bel, z.hM, z.hG, z.hL, by omega, hl⟩

theorem Try.info37 : (Try.prog.info? 37).map (fun i => (i.zero, i.size, i.bytes)) = some (some (.agg #[.pointer none, .pointer none, .bool false, .int .u64 0, .int .i64 0]), 5, 40) := by kernel_rfl
def cur0 (n : Nat) : Array Value := madeCells #[.pointer none, .pointer none, .bool false, .int .u64 0, .int .i64 0] (n * 5)
theorem cur0_get (n i k : Nat) (hi : i < n) (hk : k < 5) : (cur0 n)[i * 5 + k]? = (#[Value.pointer none, .pointer none, .bool false, .int .u64 0, .int .i64 0] : Array Value)[k]? := by
  have h1 : i * 5 + k < n * 5 := by omega
  have h2 : (i * 5 + k) % 5 = k := by omega
  have key : ∀ p, p < n * 5 → (cur0 n)[p]? = some ((#[Value.pointer none, .pointer none, .bool false, .int .u64 0, .int .i64 0] : Array Value)[p % 5]!) := fun p hp => by
    unfold cur0 madeCells
    rw [Array.getElem?_map, Array.getElem?_eq_getElem (by simpa using hp)]
    simp
  rw [key _ h1, h2]
  have : k = 0 ∨ k = 1 ∨ k = 2 ∨ k = 3 ∨ k = 4 := by omega
  rcases this with rfl | rfl | rfl | rfl | rfl <;> rfl
theorem made_row {w : World} {base L n : Nat} (h : w.ownsRow base 37 5 (.slice (some ⟨L, 0, none⟩) n n) n (cur0 n).toList) : IsRow w L (cur0 n) := by
  rcases h.2 with ⟨h0, _⟩ | ⟨g', c', cur, h1, h2, h3, h4, h5, h6, h7⟩
  · cases h0
  · simp only [Value.slice.injEq, Option.some.injEq, Addr.mk.injEq] at h1
    obtain ⟨⟨rfl, -⟩, -, rfl⟩ := h1
    have e : cur.toList.take (n * 5) = cur.toList := List.take_of_length_le (by simp [h6])
    rw [e] at h7
    have e3 : cur = cur0 n := Array.ext' h7
    show w.heap[L]? = _
    rw [h3, e3]
theorem wd_new {w wr : World} {K : Cf} {M G L A : Nat} (hm : MemE wr M G K 0 (fun _ => 0) 0) (hr : IsRow wr L (cur0 K.C)) (hc : IsCfg wr w.heap.size K.S K.a K.C K.D K.g K.k) (hb : Below w.heap.size w wr) (hM : w.heap.size + 1 ≤ M) (hG : w.heap.size + 1 ≤ G) (hL : w.heap.size + 1 ≤ L ∧ L ≠ M ∧ L ≠ G) (hA : w.heap.size + 1 ≤ A ∧ A ≠ M ∧ A ≠ G ∧ A ≠ L) (hl : A < wr.heap.size) :
    Wd w wr K M G L A 0 (fun _ => 0) 0 (cur0 K.C) (fun _ => .fresh 0 0) :=
  ⟨hm, hr, by simp [cur0, madeCells], fun i hi => ⟨cur0_get _ i 0 hi (by omega), cur0_get _ i 1 hi (by omega), cur0_get _ i 2 hi (by omega), cur0_get _ i 3 hi (by omega), cur0_get _ i 4 hi (by omega)⟩, fun i hi => trivial, fun i hi => trivial, fun i hi b hb => by simp [Gu.blk] at hb, fun i j _ _ _ b hb => by simp [Gu.blk] at hb, hc, hb, hM, hG, hL, hA, hl⟩

/-- The words that the law looks at. -/
theorem words15 {w : World} {M G : Nat} {K : Cf} (hK : K.Ok) {ep : Nat} {pins : Nat → Nat} {T : Int} (hm : MemE w M G K ep pins T) :
    Calls Try.prog 15 #[.pointer (some ⟨M, 0, none⟩)] w fun r w' => (∃ R X, r = .returned (.slice (some ⟨R, 0, none⟩) K.N K.N) ∧ Mm.IsWords w' R X ∧ X.length = K.N ∧ X.getD 1 0 = ep ∧ ∀ j, j < K.C → X.getD (4 + j) 0 = pins j) ∧ Below w.heap.size w w' := by
  have c := wordsE hK hm
  go_enter Try.func15, Try.ntmps15
  go_wp2_with (go_at_call 32; refine c.mono ?_; rintro e w1 ⟨⟨R, X, rfl, h⟩, hb⟩)
  go_ret
  exact ⟨⟨R, X, rfl, h⟩, hb⟩
end Go.Proofs.Ytpfcpkkillklkaa
