/- What always holds stays so: no Go in sight. -/
import Derived.Test.YtecppcakgfohbabNT
namespace Go.Proofs.Ytecppcakgfohbab
open Go.RowKit

theorem gvB_all {X : Sx} {aE : Int} {aH : Nat} {aY : Bool} (h : gvB X aE aH aY = true) : aH ∉ X.G ∧ aH ≠ 0 ∧ aE = 0 ∧ aY = false := by
  unfold gvB sameA at h
  simp only [Bool.and_eq_true, Bool.not_eq_true', decide_eq_false_iff_not, decide_eq_true_eq] at h
  exact ⟨h.1.1, h.1.2, h.2.1, h.2.2.2⟩
/-- A client takes a node. -/
theorem Sx.Inv.take {N : Nat} {X : Sx} (h : X.Inv N) {k : Nat} (hk : k < X.W.length) {aH : Nat} (hg : aH ∉ X.G) (h0 : aH ≠ 0) (h64 : aH < 18446744073709551616) {nd : Int} (hn : 0 ≤ nd ∧ nd < X.F.length) : (tkS X k aH nd).Inv (N + 1) where
  ok := ⟨fun x hx => by
    rcases List.mem_append.1 hx with hx | hx
    · exact h.ok.hold x hx
    · obtain rfl := List.mem_singleton.1 hx
      exact hn, h.ok.field, h.ok.comes⟩
  nd := by
    show ((X.H ++ [(⟨k, aH, nd⟩ : Hl)]).map (fun x : Hl => x.h)).Nodup
    rw [List.map_append, List.nodup_append]
    refine ⟨h.nd, by simp, fun a ha b hb e => ?_⟩
    obtain rfl := List.mem_singleton.1 hb
    obtain ⟨y, hy, rfl⟩ := List.mem_map.1 ha
    exact hg (e ▸ h.hG y hy)
  hG := fun x hx => by
    show x.h ∈ X.G ++ [aH]
    rcases List.mem_append.1 hx with hx | hx
    · exact List.mem_append_left _ (h.hG x hx)
    · obtain rfl := List.mem_singleton.1 hx
      simp
  g0 := by
    show 0 ∉ X.G ++ [aH]
    intro z
    rcases List.mem_append.1 z with z | z
    · exact h.g0 z
    · exact h0 (List.mem_singleton.1 z).symm
  cl := fun x hx => by
    rcases List.mem_append.1 hx with hx | hx
    · exact h.cl x hx
    · obtain rfl := List.mem_singleton.1 hx
      exact ⟨by show (0 : Int) ≤ (k : Int); omega, by show (k : Int) < (X.W.length : Nat); omega⟩
  nF := Nat.le_succ_of_le h.nF
  nH := by show (X.H ++ [_]).length ≤ _; rw [List.length_append]; have := h.nH; simp; omega
  nG := by show (X.G ++ [_]).length ≤ _; rw [List.length_append]; have := h.nG; simp; omega
  row := h.row
  M2 := h.M2
  com := fun L hL => Nat.le_succ_of_le (h.com L hL)
  bG := fun q hq => by
    rcases List.mem_append.1 hq with hq | hq
    · exact h.bG q hq
    · obtain rfl := List.mem_singleton.1 hq
      exact h64
  bW := h.bW
theorem mem_cm {X : Sx} {N : Nat} (h : X.Inv N) {k : Nat} (hk : k < X.W.length) : cmF X k ∈ X.M := by
  have h2 := h.M2
  unfold cmF
  rw [List.getD_eq_getElem?_getD, Int.toNat_natCast, List.getElem?_eq_getElem (by omega)]
  exact List.getElem_mem _
theorem mem_set {α : Type} {l : List α} {i : Nat} {a x : α} (h : x ∈ l.set i a) : x ∈ l ∨ x = a := by
  rcases List.mem_or_eq_of_mem_set h with h | h
  · exact .inl h
  · exact .inr h
/-- A client's walk is another one. -/
theorem Sx.Inv.walk {N : Nat} {X : Sx} (h : X.Inv N) (k a : Nat) (ha : a < 18446744073709551616) (l : List Int) (hl : l.length ≤ N) (hr : ∀ x ∈ l, 0 ≤ x ∧ x < X.F.length) : ({ X with W := X.W.set k a, M := X.M.set k l } : Sx).Inv N where
  ok := ⟨h.ok.hold, h.ok.field, fun L hL x hx => by
    rcases mem_set hL with q | q
    · exact h.ok.comes L q x hx
    · subst q; exact hr x hx⟩
  nd := h.nd
  hG := h.hG
  g0 := h.g0
  cl := by show ∀ x ∈ X.H, 0 ≤ x.c ∧ x.c < (X.W.set k a).length; rw [List.length_set]; exact h.cl
  nF := h.nF
  nH := h.nH
  nG := h.nG
  row := h.row
  M2 := by show (X.M.set k l).length = (X.W.set k a).length; rw [List.length_set, List.length_set]; exact h.M2
  com := fun L hL => by
    rcases mem_set hL with q | q
    · exact h.com L q
    · subst q; exact hl
  bG := h.bG
  bW := fun q hq => by
    rcases mem_set hq with z | z
    · exact h.bW q z
    · subst z; exact ha
theorem Sx.Inv.come {N : Nat} {X : Sx} (h : X.Inv N) (k : Nat) (l : List Int) (hl : l.length ≤ N) (hr : ∀ x ∈ l, 0 ≤ x ∧ x < X.F.length) : ({ X with M := X.M.set k l } : Sx).Inv N :=
  { h with
    ok := ⟨h.ok.hold, h.ok.field, fun L hL x hx => by
      rcases mem_set hL with q | q
      · exact h.ok.comes L q x hx
      · subst q; exact hr x hx⟩
    M2 := by show (X.M.set k l).length = X.W.length; rw [List.length_set]; exact h.M2
    com := fun L hL => by
      rcases mem_set hL with q | q
      · exact h.com L q
      · subst q; exact hl }
theorem Sx.Inv.give {N : Nat} {X : Sx} (h : X.Inv N) {aH : Nat} (h0 : aH ≠ 0) (h64 : aH < 18446744073709551616) : ({ X with G := X.G ++ [aH] } : Sx).Inv (N + 1) :=
  { (h.mono (Nat.le_succ N)) with
    ok := ⟨h.ok.hold, h.ok.field, h.ok.comes⟩
    hG := fun x hx => List.mem_append_left _ (h.hG x hx)
    g0 := by
      show 0 ∉ X.G ++ [aH]
      intro z
      rcases List.mem_append.1 z with z | z
      · exact h.g0 z
      · exact h0 (List.mem_singleton.1 z).symm
    nG := by show (X.G ++ [_]).length ≤ _; rw [List.length_append]; have := h.nG; simp; omega
    bG := fun q hq => by
      rcases List.mem_append.1 hq with hq | hq
      · exact h.bG q hq
      · obtain rfl := List.mem_singleton.1 hq
        exact h64 }
/-- A node more. -/
theorem Sx.Inv.node {N : Nat} {X : Sx} (h : X.Inv N) {c : Nat} (hc : c ≤ 8) : ({ X with F := X.F ++ [List.replicate c (-1)] } : Sx).Inv (N + 1) :=
  { (h.mono (Nat.le_succ N)) with
    ok := ⟨fun x hx => by
        have := h.ok.hold x hx
        show 0 ≤ x.n ∧ x.n < ((X.F ++ [_]).length : Nat)
        rw [List.length_append]; simp; omega, fun L hL x hx => by
        show -1 ≤ x ∧ x < ((X.F ++ [_]).length : Nat)
        rw [List.length_append]
        rcases List.mem_append.1 hL with q | q
        · have := h.ok.field L q x hx; simp; omega
        · obtain rfl := List.mem_singleton.1 q
          have := (List.mem_replicate.1 hx).2
          simp; omega, fun L hL x hx => by
        have := h.ok.comes L hL x hx
        show 0 ≤ x ∧ x < ((X.F ++ [_]).length : Nat)
        rw [List.length_append]; simp; omega⟩
    nF := by show (X.F ++ [_]).length ≤ _; rw [List.length_append]; have := h.nF; simp; omega
    row := fun L hL => by
      rcases List.mem_append.1 hL with q | q
      · exact h.row L q
      · obtain rfl := List.mem_singleton.1 q
        rw [List.length_replicate]; exact hc }
/-- A field is another one. -/
theorem Sx.Inv.field {N : Nat} {X : Sx} (h : X.Inv N) (p i : Nat) (hp : p < X.F.length) {v : Int} (hv : -1 ≤ v ∧ v < X.F.length) : ({ X with F := setF X.F p i v } : Sx).Inv N := by
  have e : (setF X.F p i v).length = X.F.length := by unfold setF; rw [List.length_set]
  have hrow : X.F.getD p [] ∈ X.F := by rw [List.getD_eq_getElem?_getD, List.getElem?_eq_getElem hp]; exact List.getElem_mem _
  exact { h with
    ok := ⟨fun x hx => by show 0 ≤ x.n ∧ x.n < ((setF X.F p i v).length : Nat); rw [e]; exact h.ok.hold x hx, fun L hL x hx => by
        show -1 ≤ x ∧ x < ((setF X.F p i v).length : Nat)
        rw [e]
        rcases mem_set hL with q | q
        · exact h.ok.field L q x hx
        · subst q
          rcases mem_set hx with z | z
          · exact h.ok.field _ hrow x z
          · subst z; exact hv, fun L hL x hx => by show 0 ≤ x ∧ x < ((setF X.F p i v).length : Nat); rw [e]; exact h.ok.comes L hL x hx⟩
    nF := by show (setF X.F p i v).length ≤ N; rw [e]; exact h.nF
    row := fun L hL => by
      rcases mem_set hL with q | q
      · exact h.row L q
      · subst q; rw [List.length_set]; exact h.row _ hrow }
theorem Sx.Inv.drop {N : Nat} {X : Sx} (h : X.Inv N) (k : Int) (q : Nat) : ({ X with H := dropF k q X.H } : Sx).Inv N := by
  have sub : ∀ x ∈ dropF k q X.H, x ∈ X.H := fun x hx => (List.mem_filter.1 hx).1
  exact { h with
    ok := ⟨fun x hx => h.ok.hold x (sub x hx), h.ok.field, h.ok.comes⟩
    nd := (List.Sublist.map _ List.filter_sublist).nodup h.nd
    hG := fun x hx => h.hG x (sub x hx)
    cl := fun x hx => h.cl x (sub x hx)
    nH := Nat.le_trans (List.length_filter_le _ _) h.nH }
theorem fld_range {N : Nat} {X : Sx} (iv : X.Inv N) {p i : Int} (h : isField X p i = true) : -1 ≤ fldF X p i ∧ fldF X p i < X.F.length := by
  unfold isField at h
  rw [Bool.and_eq_true, decide_eq_true_eq, decide_eq_true_eq] at h
  obtain ⟨K, hK⟩ : ∃ K, X.F[p.toNat]? = some K := ⟨_, List.getElem?_eq_getElem (by omega)⟩
  have hrow : rowF X p = K := by unfold rowF; rw [List.getD_eq_getElem?_getD, hK]; rfl
  rw [hrow] at h
  obtain ⟨y, hy⟩ : ∃ y, K[i.toNat]? = some y := ⟨_, List.getElem?_eq_getElem (by omega)⟩
  have hfl : fldF X p i = y := by unfold fldF; rw [hrow, List.getD_eq_getElem?_getD, hy]; rfl
  rw [hfl]
  exact iv.ok.field K (List.mem_of_getElem? hK) y (List.mem_of_getElem? hy)
theorem refO_inv {X X' : Sx} {rb : Bool} (h : refO X rb = some X') : X' = X := by
  unfold refO at h
  split at h
  · exact (Option.some.inj h).symm
  · cases h
/-- What always holds of a state holds of the one behind a call. -/
theorem inv_kd {C : Cg} {X X' : Sx} {N : Nat} (iv : X.Inv N) {k : Nat} (hk : k < X.W.length) (hCa : C.a ≤ 8) {kd cN : Int} {cH cX cY : Nat} {aE : Int} {aH : Nat} (hH : aH < 18446744073709551616) {aY : Bool} (h : kdO C X k kd cN cH cX cY aE aH aY = some X') : X'.Inv (N + 1) := by
  have same : X' = X → X'.Inv (N + 1) := fun e => by subst e; exact iv.mono (Nat.le_succ N)
  unfold kdO at h
  split at h
  · unfold mkO at h
    split at h
    · exact same (refO_inv h)
    · rename_i hc
      split at h
      · exact same (refO_inv h)
      · split at h
        · exact same (Option.some.inj h).symm
        · split at h
          · rename_i hg
            obtain ⟨g1, g2, _, _⟩ := gvB_all hg
            obtain rfl := Option.some.inj h
            have e : mkS X k cN aH = { tkS { X with F := X.F ++ [List.replicate cN.toNat (-1)] } k aH X.F.length with G := X.G ++ [aH] } := rfl
            have iv2 := iv.node (c := cN.toNat) (by omega)
            have iv3 : (tkS { X with F := X.F ++ [List.replicate cN.toNat (-1)] } k aH X.F.length).Inv (N + 1 + 1) := iv2.take hk g1 g2 hH ⟨by omega, by show (X.F.length : Int) < ((X.F ++ [_]).length : Nat); rw [List.length_append]; simp; omega⟩
            exact { iv3 with
              nF := by show (X.F ++ [_]).length ≤ _; rw [List.length_append]; have := iv.nF; simp; omega
              nH := by show (X.H ++ [_]).length ≤ _; rw [List.length_append]; have := iv.nH; simp; omega
              nG := by show (X.G ++ [_]).length ≤ _; rw [List.length_append]; have := iv.nG; simp; omega
              com := fun L hL => Nat.le_succ_of_le (iv.com L hL) }
          · cases h
  · split at h
    · unfold ldO at h
      split at h
      · exact same (refO_inv h)
      · rename_i h0
        split at h
        · exact same (refO_inv h)
        · rename_i hf
          split at h
          · exact same (refO_inv h)
          · rename_i hm
            split at h
            · exact same (refO_inv h)
            · unfold tkO at h
              split at h
              · rename_i hg
                obtain ⟨g1, g2, _, _⟩ := gvB_all hg
                obtain rfl := Option.some.inj h
                have hb := fld_range iv (by cases hq : isField X (nodeF k cH X.H) cN; exact absurd hq hf; rfl)
                exact iv.take hk g1 g2 hH ⟨by omega, hb.2⟩
              · cases h
    · split at h
      · rename_i hw
        unfold wrO at h
        split at h
        · exact same (refO_inv h)
        · rename_i h0
          split at h
          · exact same (refO_inv h)
          · split at h
            · exact same (refO_inv h)
            · split at h
              · exact same (Option.some.inj h).symm
              · split at h
                · obtain rfl := Option.some.inj h
                  have hb := nodeF_lt iv.ok (k : Int)
                  have h0' : ¬ nodeF (k : Int) cH X.H < 0 := fun z => h0 (.inl z)
                  refine (iv.field _ _ (by have := hb cH; omega) ?_).mono (Nat.le_succ N)
                  unfold nmF
                  split
                  · exact ⟨by decide, by show (-1 : Int) < _; omega⟩
                  · split
                    · exact hb cX
                    · exact hb cX
                · cases h
      · split at h
        · unfold rlO at h
          split at h
          · exact same (refO_inv h)
          · split at h
            · obtain rfl := Option.some.inj h
              exact (iv.drop k cH).mono (Nat.le_succ N)
            · cases h
        · split at h
          · unfold cpO at h
            split at h
            · exact same (refO_inv h)
            · exact same (refO_inv h)
          · split at h
            · unfold opO at h
              split at h
              · exact same (refO_inv h)
              · rename_i h0
                split at h
                · exact same (refO_inv h)
                · split at h
                  · rename_i hg
                    obtain ⟨g1, g2, _, _⟩ := gvB_all hg
                    obtain rfl := Option.some.inj h
                    have hp : 0 ≤ nodeF (k : Int) cH X.H ∧ nodeF (k : Int) cH X.H < X.F.length := ⟨by omega, (nodeF_lt iv.ok (k : Int) cH).2⟩
                    have ok := reach_ok iv.fl hp
                    exact (iv.give g2 hH).walk k aH hH _ (Nat.le_succ_of_le (Nat.le_trans ok.len iv.nF)) ok.rg
                  · cases h
            · split at h
              · unfold nxO at h
                split at h
                · exact same (refO_inv h)
                · split at h
                  · unfold clO at h
                    split at h
                    · obtain rfl := Option.some.inj h
                      exact (iv.walk k 0 (by decide) [] (Nat.zero_le _) (fun x hx => by cases hx)).mono (Nat.le_succ N)
                    · cases h
                  · split at h
                    · exact same (refO_inv h)
                    · rename_i hne
                      split at h
                      · exact same (refO_inv h)
                      · split at h
                        · rename_i hg
                          obtain ⟨g1, g2, _, _⟩ := gvB_all hg
                          obtain rfl := Option.some.inj h
                          obtain ⟨x, xs, hc⟩ : ∃ x xs, cmF X k = x :: xs := by
                            cases hq : cmF X k with
                            | nil => exact absurd hq hne
                            | cons x xs => exact ⟨x, xs, rfl⟩
                          have hm := mem_cm iv hk
                          have hr := iv.ok.comes _ hm
                          have hl := iv.com _ hm
                          rw [hc] at hr hl
                          have e : nxS X k aH = { tkS X k aH x with M := (tkS X k aH x).M.set k xs } := by
                            unfold nxS
                            rw [hc]
                            rfl
                          rw [e]
                          refine (iv.take hk g1 g2 hH (hr x (List.mem_cons_self ..))).come k xs ?_ (fun y hy => hr y (List.mem_cons_of_mem _ hy))
                          simp only [List.length_cons] at hl
                          omega
                        · cases h
              · exact same (refO_inv h)
theorem inv_ds {C : Cg} {X X' : Sx} {N : Nat} (iv : X.Inv N) (hC : X.W.length = C.c) (hCa : C.a ≤ 8) {who kd cN : Int} {cH cX cY : Nat} {aE : Int} {aH : Nat} (hH : aH < 18446744073709551616) {aY : Bool} (h : dsO C X who kd cN cH cX cY aE aH aY = some X') : X'.Inv (N + 1) := by
  unfold dsO at h
  split at h
  · exact inv_kd iv (by omega) hCa hH h
  · cases h
theorem inv_get {C : Cg} {X : Sx} {N : Nat} (iv : X.Inv N) (hC : X.W.length = C.c) (hCa : C.a ≤ 8) {who kd cN : Int} {cH cX cY : Nat} {aE : Int} {aH : Nat} (hH : aH < 18446744073709551616) {aY : Bool} : ((dsO C X who kd cN cH cX cY aE aH aY).getD X).Inv (N + 1) := by
  cases h : dsO C X who kd cN cH cX cY aE aH aY with
  | none => exact iv.mono (Nat.le_succ N)
  | some X' => exact inv_ds iv hC hCa hH h
end Go.Proofs.Ytecppcakgfohbab
