/- What a step of a Pin, a Leave and an Advance does to the epoch and the pins. -/
import Derived.Test.YtpfcpkkillklkaaEAdv
namespace Go.Proofs.Ytpfcpkkillklkaa
open Go.RowKit
open Mm (IsMem MS touched Only zeroMS)

/-- Words whose epoch and pins are these. -/
structure ME (m : MS) (K : Cf) (ep : Nat) (pins : Nat → Nat) (T : Int) : Prop where
  len : m.X.length = K.N
  ep : m.X.getD 1 0 = ep
  pin : ∀ j, j < K.C → m.X.getD (4 + j) 0 = pins j
  t : m.t = T
def MemE (w : World) (M G : Nat) (K : Cf) (ep : Nat) (pins : Nat → Nat) (T : Int) : Prop := ∃ m, IsMem w M G m ∧ ME m K ep pins T
def upd (f : Nat → Nat) (k v : Nat) : Nat → Nat := fun j => if j = k then v else f j
theorem upd_same (f : Nat → Nat) (k v : Nat) : upd f k v k = v := if_pos rfl
theorem upd_other (f : Nat → Nat) {k j : Nat} (h : j ≠ k) (v : Nat) : upd f k v j = f j := if_neg h

theorem Cf.N_ge (K : Cf) : 4 + K.C ≤ K.N := by unfold Cf.N nW; omega

theorem MemE.below {w w' : World} {M G : Nat} {K : Cf} {ep : Nat} {pins : Nat → Nat} {T : Int} (h : MemE w M G K ep pins T) (b : Below w.heap.size w w') : MemE w' M G K ep pins T := by
  obtain ⟨m, h1, h2⟩ := h
  exact ⟨m, h1.below b, h2⟩
theorem MemE.chg {L : List Nat} {w w' : World} {M G : Nat} {K : Cf} {ep : Nat} {pins : Nat → Nat} {T : Int} (h : MemE w M G K ep pins T) (b : Chg L w w') (h1 : M ∉ L) (h2 : G ∉ L) : MemE w' M G K ep pins T := by
  obtain ⟨m, h3, h4⟩ := h
  exact ⟨m, IsMem.chg h3 b h1 h2, h4⟩
theorem MemE.lt {w : World} {M G : Nat} {K : Cf} {ep : Nat} {pins : Nat → Nat} {T : Int} (h : MemE w M G K ep pins T) : M < w.heap.size ∧ G < w.heap.size ∧ M ≠ G := by
  obtain ⟨m, h1, _⟩ := h
  exact ⟨h1.M_lt, h1.G_lt, h1.ne⟩

theorem ME.load {m : MS} {K : Cf} {ep : Nat} {pins : Nat → Nat} {T : Int} (h : ME m K ep pins T) (kd : Int) (i v : Nat) (hv : m.X.getD i 0 = v) : ME (touched m kd i v) K ep pins (T + 1) := by
  have e : (touched m kd i v).X = m.X := by rw [← hv]; exact touched_X m kd i
  exact ⟨by rw [e]; exact h.len, by rw [e]; exact h.ep, fun j hj => by rw [e]; exact h.pin j hj, by rw [← h.t]; rfl⟩
theorem ME.store {m : MS} {K : Cf} {ep : Nat} {pins : Nat → Nat} {T : Int} (h : ME m K ep pins T) (kd : Int) (k v : Nat) (hk : k < K.C) : ME (touched m kd (4 + k) v) K ep (upd pins k v) (T + 1) := by
  have hN := K.N_ge
  have e : (touched m kd (4 + k) v).X = m.X.set (4 + k) v := rfl
  refine ⟨by rw [e, List.length_set]; exact h.len, by rw [e, getD_set, if_neg (by omega)]; exact h.ep, fun j hj => ?_, by rw [← h.t]; rfl⟩
  rw [e, getD_set]
  by_cases hjk : j = k
  · subst hjk
    rw [if_pos ⟨rfl, by rw [h.len]; omega⟩, upd_same]
  · rw [if_neg (by omega), upd_other _ hjk]
    exact h.pin j hj
theorem ME.turn {m : MS} {K : Cf} {ep : Nat} {pins : Nat → Nat} {T : Int} (h : ME m K ep pins T) (kd : Int) (v : Nat) : ME (touched m kd 1 v) K v pins (T + 1) := by
  have hN := K.N_ge
  have e : (touched m kd 1 v).X = m.X.set 1 v := rfl
  refine ⟨by rw [e, List.length_set]; exact h.len, by rw [e, getD_set, if_pos ⟨rfl, by rw [h.len]; omega⟩], fun j hj => ?_, by rw [← h.t]; rfl⟩
  rw [e, getD_set, if_neg (by omega)]
  exact h.pin j hj

/-- The memory of a config in which nothing was done. -/
def memK0 (K : Cf) : MS := zeroMS (memX K.C K.D K.B (nW K.C K.D K.B K.S) (K.S - 1))
theorem memK0_E (K : Cf) : ME (memK0 K) K 0 (fun _ => 0) 0 := by
  have hN := K.N_ge
  have hN' : 4 + K.C ≤ nW K.C K.D K.B K.S := hN
  refine ⟨memX_len _ _ _ _ _, ?_, fun j hj => ?_, rfl⟩
  · show (memX K.C K.D K.B (nW K.C K.D K.B K.S) (K.S - 1)).getD 1 0 = 0
    unfold memX
    rw [List.getD_eq_getElem?_getD, List.getElem?_map, List.getElem?_range (by omega)]
    show memK K.C K.D K.B (K.S - 1) 1 = 0
    unfold memK
    rw [wat_0 _ _ _ 1 (by omega)]
    simp
  · show (memX K.C K.D K.B (nW K.C K.D K.B K.S) (K.S - 1)).getD (4 + j) 0 = 0
    unfold memX
    rw [List.getD_eq_getElem?_getD, List.getElem?_map, List.getElem?_range (by omega)]
    show memK K.C K.D K.B (K.S - 1) (4 + j) = 0
    unfold memK
    rw [wat_1 _ _ _ (4 + j) (by omega) (by omega), if_neg (by omega), if_neg (by simp)]
theorem memory_E {K : Cf} (hK : K.Ok) (w : World) : Calls Try.prog 9 #[.agg K.cs] w fun e w' => ∃ M G, e = .returned (.pointer (some ⟨M, 0, none⟩)) ∧ MemE w' M G K 0 (fun _ => 0) 0 ∧ w.heap.size ≤ M ∧ w.heap.size ≤ G ∧ Below w.heap.size w w' :=
  (memory_yes hK.r hK.b hK.b8 hK.c8 hK.d16 hK.s64 hK.s1 hK.d1 w).mono fun _ _ ⟨M, G, he, hm, hM, hG, hb⟩ => ⟨M, G, he, ⟨_, hm, memK0_E K⟩, hM, hG, hb⟩
theorem touches_E {w : World} {M G : Nat} {K : Cf} {ep : Nat} {pins : Nat → Nat} {T : Int} (h : MemE w M G K ep pins T) : Calls Try.prog 13 #[.pointer (some ⟨M, 0, none⟩)] w fun e w' => e = .returned (.int .i64 T) ∧ w = w' := by
  obtain ⟨m, hm, me⟩ := h
  rw [← me.t]
  exact Mm.touches_any hm

/-- A machine that pins. -/
abbrev PinAt (w : World) (P k E : Nat) (pc : Int) (e : Nat) : Prop := IsPin w P E ((4 + k : Nat) : Int) pc e
abbrev AdvAt (w : World) (P : Nat) (K : Cf) (E : Nat) (pc : Int) (e wh : Nat) : Prop := IsAdv w P E K.S K.a K.C K.D K.g K.k pc e (wh : Nat)
abbrev LeaveAt (w : World) (P k : Nat) (pc : Int) : Prop := IsLeave w P ((4 + k : Nat) : Int) pc

theorem newPin_K {K : Cf} (hK : K.Ok) (i : Nat) (hi : i < K.C) (w : World) :
    Calls Try.prog 16 #[.agg K.cs, .int .i64 (i : Nat)] w fun e w' => ∃ P, e = .returned (.pointer (some ⟨P, 0, none⟩)) ∧ PinAt w' P i 0 0 0 ∧ w.heap.size ≤ P ∧ Below w.heap.size w w' := newPin_yes hK i hi w
theorem newLeave_K {K : Cf} (hK : K.Ok) (i : Nat) (hi : i < K.C) (w : World) :
    Calls Try.prog 18 #[.agg K.cs, .int .i64 (i : Nat)] w fun e w' => ∃ P, e = .returned (.pointer (some ⟨P, 0, none⟩)) ∧ LeaveAt w' P i 0 ∧ w.heap.size ≤ P ∧ Below w.heap.size w w' := newLeave_yes hK i hi w
theorem newAdv_K {K : Cf} (hK : K.Ok) (w : World) :
    Calls Try.prog 11 #[.agg K.cs] w fun e w' => ∃ P, e = .returned (.pointer (some ⟨P, 0, none⟩)) ∧ AdvAt w' P K 0 0 0 0 ∧ w.heap.size ≤ P ∧ Below w.heap.size w w' := newAdv_yes hK.r w

theorem pinE_0 {w : World} {M G P k E e : Nat} {K : Cf} {ep : Nat} {pins : Nat → Nat} {T : Int} (hm : MemE w M G K ep pins T) (hp : PinAt w P k E 0 e) (h1 : P ≠ M) (h2 : P ≠ G) (ht : 0 ≤ T ∧ T < 4611686018427387904) :
    Calls Try.prog 17 #[.pointer (some ⟨P, 0, none⟩), .pointer (some ⟨M, 0, none⟩)] w fun r w' => r = .returned (.bool false) ∧ MemE w' M G K ep pins (T + 1) ∧ PinAt w' P k E 1 ep ∧ Chg [P, M, G] w w' := by
  obtain ⟨m, hm, me⟩ := hm
  have hN := K.N_ge
  exact (pin_0 hm hp h1 h2 (by rw [me.len]; omega) (by rw [me.t]; exact ht) me.ep).mono fun _ _ ⟨he, hm', hp', hc⟩ => ⟨he, ⟨_, hm', me.load 1 1 _ me.ep⟩, hp', hc⟩
theorem pinE_1 {w : World} {M G P k E e : Nat} {K : Cf} {ep : Nat} {pins : Nat → Nat} {T : Int} (hm : MemE w M G K ep pins T) (hp : PinAt w P k E 1 e) (h1 : P ≠ M) (h2 : P ≠ G) (ht : 0 ≤ T ∧ T < 4611686018427387904) (hk : k < K.C) (he : e < 4611686018427387904) :
    Calls Try.prog 17 #[.pointer (some ⟨P, 0, none⟩), .pointer (some ⟨M, 0, none⟩)] w fun r w' => r = .returned (.bool false) ∧ MemE w' M G K ep (upd pins k (2 * e + 1)) (T + 1) ∧ PinAt w' P k E 2 e ∧ Chg [P, M, G] w w' := by
  obtain ⟨m, hm, me⟩ := hm
  have hN := K.N_ge
  exact (pin_1 hm hp h1 h2 (by rw [me.len]; omega) (by rw [me.t]; exact ht) he).mono fun _ _ ⟨he, hm', hp', hc⟩ => ⟨he, ⟨_, hm', me.store 2 k _ hk⟩, hp', hc⟩
theorem pinE_2y {w : World} {M G P k E : Nat} {K : Cf} {ep : Nat} {pins : Nat → Nat} {T : Int} (hm : MemE w M G K ep pins T) (hp : PinAt w P k E 2 ep) (h1 : P ≠ M) (h2 : P ≠ G) (ht : 0 ≤ T ∧ T < 4611686018427387904) :
    Calls Try.prog 17 #[.pointer (some ⟨P, 0, none⟩), .pointer (some ⟨M, 0, none⟩)] w fun r w' => r = .returned (.bool true) ∧ MemE w' M G K ep pins (T + 1) ∧ PinAt w' P k ep 3 ep ∧ Chg [P, M, G] w w' := by
  obtain ⟨m, hm, me⟩ := hm
  have hN := K.N_ge
  exact (pin_2y hm hp h1 h2 (by rw [me.len]; omega) (by rw [me.t]; exact ht) me.ep).mono fun _ _ ⟨he, hm', hp', hc⟩ => ⟨he, ⟨_, hm', me.load 1 1 _ me.ep⟩, hp', hc⟩
theorem pinE_2n {w : World} {M G P k E e : Nat} {K : Cf} {ep : Nat} {pins : Nat → Nat} {T : Int} (hm : MemE w M G K ep pins T) (hp : PinAt w P k E 2 e) (h1 : P ≠ M) (h2 : P ≠ G) (ht : 0 ≤ T ∧ T < 4611686018427387904) (hne : ep ≠ e) :
    Calls Try.prog 17 #[.pointer (some ⟨P, 0, none⟩), .pointer (some ⟨M, 0, none⟩)] w fun r w' => r = .returned (.bool false) ∧ MemE w' M G K ep pins (T + 1) ∧ PinAt w' P k E 1 ep ∧ Chg [P, M, G] w w' := by
  obtain ⟨m, hm, me⟩ := hm
  have hN := K.N_ge
  exact (pin_2n hm hp h1 h2 (by rw [me.len]; omega) (by rw [me.t]; exact ht) me.ep hne).mono fun _ _ ⟨he, hm', hp', hc⟩ => ⟨he, ⟨_, hm', me.load 1 1 _ me.ep⟩, hp', hc⟩

theorem leaveE_0 {w : World} {M G P k : Nat} {K : Cf} {ep : Nat} {pins : Nat → Nat} {T : Int} (hm : MemE w M G K ep pins T) (hp : LeaveAt w P k 0) (h1 : P ≠ M) (h2 : P ≠ G) (ht : 0 ≤ T ∧ T < 4611686018427387904) (hk : k < K.C) :
    Calls Try.prog 19 #[.pointer (some ⟨P, 0, none⟩), .pointer (some ⟨M, 0, none⟩)] w fun r w' => r = .returned (.bool true) ∧ MemE w' M G K ep (upd pins k 0) (T + 1) ∧ LeaveAt w' P k 1 ∧ Chg [P, M, G] w w' := by
  obtain ⟨m, hm, me⟩ := hm
  have hN := K.N_ge
  exact (leave_0 hm hp h1 h2 (by rw [me.len]; omega) (by rw [me.t]; exact ht)).mono fun _ _ ⟨he, hm', hp', hc⟩ => ⟨he, ⟨_, hm', me.store 2 k _ hk⟩, hp', hc⟩

theorem advE_0 {w : World} {M G P E e wh : Nat} {K : Cf} {ep : Nat} {pins : Nat → Nat} {T : Int} (hm : MemE w M G K ep pins T) (hp : AdvAt w P K E 0 e wh) (h1 : P ≠ M) (h2 : P ≠ G) (ht : 0 ≤ T ∧ T < 4611686018427387904) :
    Calls Try.prog 14 #[.pointer (some ⟨P, 0, none⟩), .pointer (some ⟨M, 0, none⟩)] w fun r w' => r = .returned (.bool false) ∧ MemE w' M G K ep pins (T + 1) ∧ AdvAt w' P K E 1 ep 0 ∧ Chg [P, M, G] w w' := by
  obtain ⟨m, hm, me⟩ := hm
  have hN := K.N_ge
  exact (adv_0 hm hp h1 h2 (by rw [me.len]; omega) (by rw [me.t]; exact ht) me.ep).mono fun _ _ ⟨he, hm', hp', hc⟩ => ⟨he, ⟨_, hm', me.load 1 1 _ me.ep⟩, hp', hc⟩
theorem advE_1go {w : World} {M G P E e wh : Nat} {K : Cf} (hK : K.Ok) {ep : Nat} {pins : Nat → Nat} {T : Int} (hm : MemE w M G K ep pins T) (hp : AdvAt w P K E 1 e wh) (h1 : P ≠ M) (h2 : P ≠ G) (ht : 0 ≤ T ∧ T < 4611686018427387904) (hw : wh < K.C) (he : e < 4611686018427387904) (hv : pins wh = 0 ∨ pins wh = 2 * e + 1) :
    Calls Try.prog 14 #[.pointer (some ⟨P, 0, none⟩), .pointer (some ⟨M, 0, none⟩)] w fun r w' => r = .returned (.bool false) ∧ MemE w' M G K ep pins (T + 1) ∧ AdvAt w' P K E (if K.C ≤ wh + 1 then 2 else 1) e (wh + 1) ∧ Chg [P, M, G] w w' := by
  obtain ⟨m, hm, me⟩ := hm
  have hN := K.N_ge
  have h8 := hK.c8
  have c := adv_1go hm hp h1 h2 (by rw [me.len]; omega) (by rw [me.t]; exact ht) (me.pin wh hw) he (by omega) (pin_any hK wh hw) hv
  have e : (if (K.C : Int) ≤ ((wh + 1 : Nat) : Int) then (2 : Int) else 1) = if K.C ≤ wh + 1 then 2 else 1 := by
    by_cases h : K.C ≤ wh + 1
    · rw [if_pos h, if_pos (by omega)]
    · rw [if_neg h, if_neg (by omega)]
  rw [e] at c
  exact c.mono fun _ _ ⟨he, hm', hp', hc⟩ => ⟨he, ⟨_, hm', me.load 1 _ _ (me.pin wh hw)⟩, hp', hc⟩
theorem advE_1stay {w : World} {M G P E e wh : Nat} {K : Cf} (hK : K.Ok) {ep : Nat} {pins : Nat → Nat} {T : Int} (hm : MemE w M G K ep pins T) (hp : AdvAt w P K E 1 e wh) (h1 : P ≠ M) (h2 : P ≠ G) (ht : 0 ≤ T ∧ T < 4611686018427387904) (hw : wh < K.C) (he : e < 4611686018427387904) (hv : pins wh ≠ 0) (hv2 : pins wh ≠ 2 * e + 1) :
    Calls Try.prog 14 #[.pointer (some ⟨P, 0, none⟩), .pointer (some ⟨M, 0, none⟩)] w fun r w' => r = .returned (.bool false) ∧ MemE w' M G K ep pins (T + 1) ∧ AdvAt w' P K E 1 e wh ∧ Chg [P, M, G] w w' := by
  obtain ⟨m, hm, me⟩ := hm
  have hN := K.N_ge
  exact (adv_1stay hm hp h1 h2 (by rw [me.len]; omega) (by rw [me.t]; exact ht) (me.pin wh hw) he (pin_any hK wh hw) hv hv2).mono fun _ _ ⟨he, hm', hp', hc⟩ => ⟨he, ⟨_, hm', me.load 1 _ _ (me.pin wh hw)⟩, hp', hc⟩
theorem advE_2y {w : World} {M G P E wh : Nat} {K : Cf} {ep : Nat} {pins : Nat → Nat} {T : Int} (hm : MemE w M G K ep pins T) (hp : AdvAt w P K E 2 ep wh) (h1 : P ≠ M) (h2 : P ≠ G) (ht : 0 ≤ T ∧ T < 4611686018427387904) (he : ep < 4611686018427387904) :
    Calls Try.prog 14 #[.pointer (some ⟨P, 0, none⟩), .pointer (some ⟨M, 0, none⟩)] w fun r w' => r = .returned (.bool true) ∧ MemE w' M G K (ep + 1) pins (T + 1) ∧ AdvAt w' P K (ep + 1) 3 ep wh ∧ Chg [P, M, G] w w' := by
  obtain ⟨m, hm, me⟩ := hm
  have hN := K.N_ge
  exact (adv_2y hm hp h1 h2 (by rw [me.len]; omega) (by rw [me.t]; exact ht) me.ep he).mono fun _ _ ⟨he, hm', hp', hc⟩ => ⟨he, ⟨_, hm', me.turn 3 _⟩, hp', hc⟩
theorem advE_2n {w : World} {M G P E e wh : Nat} {K : Cf} {ep : Nat} {pins : Nat → Nat} {T : Int} (hm : MemE w M G K ep pins T) (hp : AdvAt w P K E 2 e wh) (h1 : P ≠ M) (h2 : P ≠ G) (ht : 0 ≤ T ∧ T < 4611686018427387904) (he : e < 4611686018427387904) (hne : ep ≠ e) :
    Calls Try.prog 14 #[.pointer (some ⟨P, 0, none⟩), .pointer (some ⟨M, 0, none⟩)] w fun r w' => r = .returned (.bool false) ∧ MemE w' M G K ep pins (T + 1) ∧ AdvAt w' P K E 0 e wh ∧ Chg [P, M, G] w w' := by
  obtain ⟨m, hm, me⟩ := hm
  have hN := K.N_ge
  exact (adv_2n hm hp h1 h2 (by rw [me.len]; omega) (by rw [me.t]; exact ht) me.ep hne he).mono fun _ _ ⟨he, hm', hp', hc⟩ => ⟨he, ⟨_, hm', me.load 3 1 _ me.ep⟩, hp', hc⟩

/-- Loading a client's pin. -/
theorem loadE {w : World} {M G k : Nat} {K : Cf} {ep : Nat} {pins : Nat → Nat} {T : Int} (hm : MemE w M G K ep pins T) (ht : 0 ≤ T ∧ T < 4611686018427387904) (hk : k < K.C) :
    Calls Try.prog 21 #[.pointer (some ⟨M, 0, none⟩), .int .i64 ((4 + k : Nat) : Int)] w fun r w' => r = .returned (.int .u64 ((pins k : Nat) : Int)) ∧ MemE w' M G K ep pins (T + 1) ∧ Chg [M, G] w w' := by
  obtain ⟨m, hm, me⟩ := hm
  have hN := K.N_ge
  have c := Mm.load_in hm (4 + k) (by rw [me.len]; omega) (by rw [me.t]; exact ht)
  rw [me.pin k hk] at c
  exact c.mono fun _ _ ⟨he, hm', ho⟩ => ⟨he, ⟨_, hm', me.load 1 _ _ (me.pin k hk)⟩, Chg.of_only ho (by simp) (by simp)⟩
/-- The epoch is made one more. -/
theorem addE {w : World} {M G : Nat} {K : Cf} {ep : Nat} {pins : Nat → Nat} {T : Int} (hm : MemE w M G K ep pins T) (ht : 0 ≤ T ∧ T < 4611686018427387904) (he : ep < 4611686018427387904) :
    Calls Try.prog 20 #[.pointer (some ⟨M, 0, none⟩), .int .i64 1, .int .u64 1] w fun r w' => r = .returned (.int .u64 ((ep + 1 : Nat) : Int)) ∧ MemE w' M G K (ep + 1) pins (T + 1) ∧ Chg [M, G] w w' := by
  obtain ⟨m, hm, me⟩ := hm
  have hN := K.N_ge
  have c := Mm.add_in hm 1 1 (by rw [me.len]; omega) (by rw [me.t]; exact ht)
  have e : Mm.sumW (m.X.getD 1 0) 1 = ep + 1 := by
    rw [me.ep]
    unfold Mm.sumW
    exact Nat.mod_eq_of_lt (by omega)
  rw [e] at c
  exact c.mono fun _ _ ⟨he, hm', ho⟩ => ⟨he, ⟨_, hm', me.turn 4 _⟩, Chg.of_only ho (by simp) (by simp)⟩
/-- The words of a memory. -/
theorem wordsE {w : World} {M G : Nat} {K : Cf} (hK : K.Ok) {ep : Nat} {pins : Nat → Nat} {T : Int} (hm : MemE w M G K ep pins T) :
    Calls Try.prog 32 #[.pointer (some ⟨M, 0, none⟩)] w fun r w' => (∃ R X, r = .returned (.slice (some ⟨R, 0, none⟩) K.N K.N) ∧ Mm.IsWords w' R X ∧ X.length = K.N ∧ X.getD 1 0 = ep ∧ ∀ j, j < K.C → X.getD (4 + j) 0 = pins j) ∧ Below w.heap.size w w' := by
  obtain ⟨m, hm, me⟩ := hm
  have hN := hK.N_b
  have c := Mm.words_any hm (by have := me.len; omega)
  rw [me.len] at c
  exact c.mono fun e w' ⟨R, he, hw, _, hb⟩ => ⟨⟨R, m.X, he, hw, me.len, me.ep, me.pin⟩, hb⟩
end Go.Proofs.Ytpfcpkkillklkaa
