/- The free list as a chain of words; what a Pop and a Push alone do to it: no program in sight. -/
import Derived.Test.YteechgmjaagbmabDoorSSame
import Derived.Test.YteechgmjaagbmabDoorAB
namespace Go.Proofs.YteechgmjaagbmabDoor
open Mm (MS touched)
open Tg (movedW)

/-- The chain from a number on. -/
def Ch (K : Cf) (X : List Nat) : Nat → List Nat → Prop
  | x, [] => ¬ (1 ≤ x ∧ x ≤ K.S)
  | x, s :: F => x = s + 1 ∧ s < K.S ∧ Ch K X (X.getD (K.lk s) 0) F

theorem Ch.walk {K : Cf} {X : List Nat} : ∀ {F : List Nat} {x n : Nat}, Ch K X x F → F.length ≤ n → walkL K X n x = F
  | [], x, n, h, _ => by
    cases n with
    | zero => rfl
    | succ n => unfold walkL; rw [if_neg h]
  | s :: F, x, n, h, hl => by
    obtain ⟨rfl, hs, h2⟩ := h
    cases n with
    | zero => simp at hl
    | succ n =>
      unfold walkL
      rw [if_pos ⟨by omega, by omega⟩, Nat.add_sub_cancel, h2.walk (by simpa using hl)]
theorem Ch.lt {K : Cf} {X : List Nat} : ∀ {F : List Nat} {x : Nat}, Ch K X x F → ∀ s ∈ F, s < K.S
  | s :: F, x, h, t, ht => by
    obtain ⟨rfl, hs, h2⟩ := h
    rcases List.mem_cons.1 ht with rfl | ht
    · exact hs
    · exact h2.lt t ht
theorem Ch.kept {K : Cf} {X Y : List Nat} : ∀ {F : List Nat} {x : Nat}, Ch K X x F → (∀ s ∈ F, Y.getD (K.lk s) 0 = X.getD (K.lk s) 0) → Ch K Y x F
  | [], _, h, _ => h
  | s :: F, x, h, hk => by
    obtain ⟨rfl, hs, h2⟩ := h
    refine ⟨rfl, hs, ?_⟩
    rw [hk s (by simp)]
    exact h2.kept fun t ht => hk t (by simp [ht])
theorem Ch.nmd_nil {K : Cf} {X : List Nat} {x : Nat} (h : Ch K X x []) : nmd K.S x = -1 := by
  rcases nmd_cases K.S x with e | ⟨s, hs, e, rfl⟩
  · exact e
  · exact absurd ⟨by omega, by omega⟩ h
theorem Ch.nmd_cons {K : Cf} {X : List Nat} {x s : Nat} {F : List Nat} (h : Ch K X x (s :: F)) : nmd K.S x = (s : Int) := by
  obtain ⟨rfl, hs, _⟩ := h
  exact nmd_of hs
/-- A chain goes on from the number that its slot has, or 0. -/
theorem Ch.tosl {K : Cf} (hS : K.S ≤ 64) {X : List Nat} {x : Nat} {F : List Nat} (h : Ch K X x F) : Ch K X (Tg.sl (nmd K.S x)) F := by
  cases F with
  | nil =>
    rw [h.nmd_nil]
    show ¬ (1 ≤ Tg.sl (-1) ∧ Tg.sl (-1) ≤ K.S)
    unfold Tg.sl
    rw [if_neg (by omega)]
    omega
  | cons s F =>
    rw [h.nmd_cons]
    obtain ⟨rfl, hs, h2⟩ := h
    have e : Tg.sl (s : Int) = s + 1 := by unfold Tg.sl; rw [if_pos (by omega)]; omega
    rw [e]
    exact ⟨rfl, hs, h2⟩

theorem nodup_len : ∀ (S : Nat) (F : List Nat), F.Nodup → (∀ x ∈ F, x < S) → F.length ≤ S
  | 0, F, _, h => by
    cases F with
    | nil => simp
    | cons a F => exact absurd (h a (by simp)) (by omega)
  | S + 1, F, hn, h => by
    have h1 := nodup_len S (F.erase S) (hn.erase S) (fun x hx => by
      have h2 := (List.Nodup.mem_erase_iff hn).1 hx
      have := h x h2.2
      have := h2.1
      omega)
    rw [List.length_erase] at h1
    split at h1 <;> omega

/-- The words have this free list, its top this tag. -/
structure Top (K : Cf) (X : List Nat) (tag : Nat) (F : List Nat) : Prop where
  len : X.length = K.N
  ch : Ch K X (X.getD 3 0 % 65536) F
  tg : X.getD 3 0 / 65536 = tag
  nd : F.Nodup

theorem Top.list {K : Cf} {X : List Nat} {tag : Nat} {F : List Nat} (h : Top K X tag F) : lst K X = F := h.ch.walk (nodup_len K.S F h.nd h.ch.lt)

theorem movedW_mod (W : Nat) (s : Int) : movedW W s % 65536 = Tg.sl s := by
  have := Tg.sl_le s
  unfold movedW
  omega
theorem movedW_div (W : Nat) (s : Int) (h : W / 65536 + 1 < 281474976710656) : movedW W s / 65536 = W / 65536 + 1 := by
  have := Tg.sl_le s
  unfold movedW
  omega

theorem Top.fst {K : Cf} {X : List Nat} {tag s : Nat} {F : List Nat} (h : Top K X tag (s :: F)) : fst K.S (X.getD 3 0) = (s : Int) := h.ch.nmd_cons
theorem Top.fst_nil {K : Cf} {X : List Nat} {tag : Nat} (h : Top K X tag []) : YteechgmjaagbmabDoor.fst K.S (X.getD 3 0) = -1 := h.ch.nmd_nil

/-- The top swapped for its next one, of the second slot. -/
theorem Top.popped {K : Cf} (hK : K.Ok) {X : List Nat} {tag s : Nat} {F : List Nat} (h : Top K X tag (s :: F)) (ht : tag + 1 < 281474976710656) :
    Top K (X.set 3 (movedW (X.getD 3 0) (nmd K.S (X.getD (K.lk s) 0)))) (tag + 1) F := by
  have hN := hK.N_b
  have e3 : ∀ v, (X.set 3 v).getD 3 0 = v := fun v => by rw [getD_set, if_pos ⟨rfl, by have := h.len; omega⟩]
  refine ⟨by simp [h.len], ?_, ?_, (List.nodup_cons.1 h.nd).2⟩
  · rw [e3, movedW_mod]
    refine (h.ch.2.2.tosl hK.s64).kept fun t ht => ?_
    rw [getD_set, if_neg (by have := K.lk_4 t; omega)]
  · rw [e3, movedW_div _ _ (by have := h.tg; omega), h.tg]
/-- A slot laid ahead: its link stored, the top swapped for its next one. -/
theorem Top.linked {K : Cf} {X : List Nat} {tag s : Nat} {F : List Nat} (h : Top K X tag F) (hs : s ∉ F) (v : Nat) : Top K (X.set (K.lk s) v) tag F := by
  have e3 : (X.set (K.lk s) v).getD 3 0 = X.getD 3 0 := by rw [getD_set, if_neg (by have := K.lk_4 s; omega)]
  refine ⟨by simp [h.len], ?_, by rw [e3]; exact h.tg, h.nd⟩
  rw [e3]
  refine h.ch.kept fun t ht => ?_
  rw [getD_set, if_neg (fun (e : K.lk s = K.lk t ∧ _) => hs (by rw [K.lk_inj e.1]; exact ht))]
theorem Top.pushed {K : Cf} (hK : K.Ok) {X : List Nat} {tag s : Nat} {F : List Nat} (h : Top K X tag F) (hs : s ∉ F) (hsS : s < K.S) (ht : tag + 1 < 281474976710656) (hl : X.getD (K.lk s) 0 = (YteechgmjaagbmabDoor.fst K.S (X.getD 3 0) + 1).toNat) :
    Top K (X.set 3 (movedW (X.getD 3 0) (s : Nat))) (tag + 1) (s :: F) := by
  have hN := hK.N_b
  have h64 := hK.s64
  have e3 : ∀ v, (X.set 3 v).getD 3 0 = v := fun v => by rw [getD_set, if_pos ⟨rfl, by have := h.len; omega⟩]
  have el : ∀ v t, (X.set 3 v).getD (K.lk t) 0 = X.getD (K.lk t) 0 := fun v t => by rw [getD_set, if_neg (by have := K.lk_4 t; omega)]
  refine ⟨by simp [h.len], ?_, ?_, List.nodup_cons.2 ⟨hs, h.nd⟩⟩
  · rw [e3, movedW_mod]
    refine ⟨by unfold Tg.sl; rw [if_pos (by omega)]; omega, hsS, ?_⟩
    rw [el, hl]
    have hc := (h.ch.tosl h64).kept (Y := X.set 3 (movedW (X.getD 3 0) (s : Nat))) fun t _ => el _ t
    have e : Tg.sl (nmd K.S (X.getD 3 0 % 65536)) = (YteechgmjaagbmabDoor.fst K.S (X.getD 3 0) + 1).toNat := by
      show Tg.sl (YteechgmjaagbmabDoor.fst K.S (X.getD 3 0)) = _
      rcases fst_cases K.S (X.getD 3 0) with e | ⟨t, ht, e, _⟩
      · rw [e]; rfl
      · rw [e]; unfold Tg.sl; rw [if_pos (by omega)]
    rw [← e]
    exact hc
  · rw [e3, movedW_div _ _ (by have := h.tg; omega), h.tg]

theorem memX_get (C D B N k p : Nat) (h : p < N) : (memX C D B N k).getD p 0 = memK C D B k p := by
  simp [memX, h]
theorem link_new {K : Cf} (hK : K.Ok) {s : Nat} (hs : s < K.S) : (memK0 K).X.getD (K.lk s) 0 = if s + 1 < K.S then s + 2 else 0 := by
  show (memX K.C K.D K.B K.N (K.S - 1)).getD (K.lk s) 0 = _
  rw [memX_get _ _ _ _ _ _ (hK.lk_lt hs)]
  unfold memK
  have h4 := K.lk_4 s
  rw [if_neg (by omega), show wat K.C K.D K.B (K.lk s) = (9, s, 0) from wat_link K.C K.D K.B s]
  by_cases h : s + 1 < K.S
  · rw [if_pos h, if_pos ⟨rfl, by show s < K.S - 1; omega⟩]
  · rw [if_neg h, if_neg (fun e => by have : s < K.S - 1 := e.2; omega)]
theorem ch_new {K : Cf} (hK : K.Ok) : ∀ (n s : Nat), s + n = K.S → Ch K (memK0 K).X (if s < K.S then s + 1 else 0) (List.range' s n)
  | 0, s, h => by rw [if_neg (by omega)]; show ¬ _; omega
  | n + 1, s, h => by
    rw [if_pos (by omega)]
    refine ⟨rfl, by omega, ?_⟩
    rw [link_new hK (by omega)]
    exact ch_new hK n (s + 1) (by omega)
/-- The memory of a right config in which nothing was done. -/
theorem top_new {K : Cf} (hK : K.Ok) : Top K (memK0 K).X 0 (List.range' 0 K.S) := by
  have hN := hK.N_b
  have h1 := hK.s1
  have e : (memK0 K).X.getD 3 0 = 1 := by
    show (memX K.C K.D K.B K.N (K.S - 1)).getD 3 0 = 1
    rw [memX_get _ _ _ _ _ _ (by omega)]
    rfl
  refine ⟨memX_len _ _ _ _ _, ?_, by rw [e], List.nodup_range'⟩
  rw [e]
  have := ch_new hK K.S 0 (by omega)
  rw [if_pos (by omega)] at this
  exact this
end Go.Proofs.YteechgmjaagbmabDoor
