/- The walk of the document's Drop (cache). -/
import Derived.Test.YtfpcabfpnekejaaDoorCpb
import Derived.Test.YtfpcabfpnekejaaDoorInw
import Derived.BigQuiet
namespace Go.Proofs.YtfpcabfpnekejaaDoor
open Go.RowKit Go.Maps

/-- Only new memory, and the cache's own block, have changed. -/
def WrC (m : Nat) (w w' : World) : Prop := w.grownBy w' (some m)
theorem cb_neC {w : World} {g g' : Nat} {t t' : TypeId} {cs cs' : List Value} (h : CB w g t cs) (h' : CB w g' t' cs') (ht : t ≠ t') : g ≠ g' := by
  intro e
  subst e
  have h1 := h.symm.trans h'
  injection h1 with h1
  injection h1 with _ h1
  exact ht h1
set_option maxRecDepth 100000 in
theorem rowCc : RowT Tryd.prog 28 38 23 := ⟨Tryd.underlying28, by
  refine ⟨_, _, rfl, rfl, rfl, ?_, rfl⟩
  decide, by omega⟩
theorem szLC : (Tryd.prog.info? 28).map (·.size) = some 1 := by kernel_rfl

section
variable (m gE cap n i o2 hd : Nat) (wd : World) (P1 P2 : List (List Value))
/-- What the operations of Drop's region yield, and what they leave. -/
def CpeV (L : Nat → Bool) : Nat → Value → World → Prop
  | 1, v, x => L 1 = true → L 8 = false → L 16 = false → L 19 = false → RowX x hd 38 23 v []
  | 8, v, x => L 8 = true → L 1 = true ∧ (L 16 = false → L 19 = false → RowX x hd 38 23 v P1)
  | 16, v, x => L 16 = true → L 1 = true ∧ L 8 = true ∧ (L 19 = false → RowX x hd 38 23 v (P1 ++ P2))
  | 19, _, x => L 19 = true → (∀ j, j < 19 → L j = true) ∧ wd.grownBy x (some m) ∧ ∃ v, CB x m 30 [v] ∧ RowX x hd 38 23 v (P1 ++ P2)
  | 0, v, _ => L 0 = true → v = .pointer (some ⟨m, 0, none⟩)
  | 2, v, _ => L 2 = true → v = .pointer (some ⟨m, 0, none⟩)
  | 3, v, _ => L 3 = true → v = .pointer (some ⟨m, 0, none⟩)
  | 4, v, _ => L 4 = true → v = .pointer (some ⟨m, 0, none⟩)
  | 5, v, _ => L 5 = true → v = .slice (some ⟨gE, 0, none⟩) n cap
  | 6, v, _ => L 6 = true → v = .int .i64 i
  | 7, v, _ => L 7 = true → v = .slice (some ⟨gE, 0, none⟩) i cap
  | 9, v, _ => L 9 = true → v = .pointer (some ⟨m, 0, none⟩)
  | 10, v, _ => L 10 = true → v = .pointer (some ⟨m, 0, none⟩)
  | 11, v, _ => L 11 = true → v = .pointer (some ⟨m, 0, none⟩)
  | 12, v, _ => L 12 = true → v = .slice (some ⟨gE, 0, none⟩) n cap
  | 13, v, _ => L 13 = true → v = .int .i64 i
  | 14, v, _ => L 14 = true → v = .int .i64 ((i + 1 : Nat) : Int)
  | 15, v, _ => L 15 = true → v = .slice (some ⟨gE, o2, none⟩) (n - (i + 1)) (cap - (i + 1))
  | 17, v, _ => L 17 = true → v = .pointer (some ⟨m, 0, none⟩)
  | 18, v, _ => L 18 = true → v = .pointer (some ⟨m, 0, none⟩)
  | _, _, _ => True
def CpeF (L : Nat → Bool) (j : Nat) (v : Value) (x : World) : Prop := (L 19 = false → Below hd wd x) ∧ CpeV m gE cap n i o2 hd wd P1 P2 L j v x
def CpeT : Nat → World → World → Prop
  | 1, x, y => Below hd x y
  | 8, x, y => Below hd x y
  | 16, x, y => Below hd x y
  | 19, _, _ => True
  | _, x, y => x = y
end
theorem moreT_neW {L : Nat → Bool} {i j : Nat} (h : j ≠ i) : Inv.moreT i L j = L j := by
  unfold Inv.moreT
  rw [decide_eq_false (fun e => h e.symm), Bool.false_or]
theorem moreT_atW {L : Nat → Bool} {i : Nat} : Inv.moreT i L i = true := by unfold Inv.moreT; simp
section
variable {m gE cap n i o2 hd : Nat} {wd : World} {P1 P2 : List (List Value)}
theorem CpeT.below {k : Nat} {x y : World} (h : CpeT hd k x y) (hk : k ≠ 19) : Below hd x y := by
  unfold CpeT at h
  split at h
  · exact h
  · exact h
  · exact h
  · exact absurd rfl hk
  · subst h; exact Below.refl _ _
theorem CpeT.same {k : Nat} {x y : World} (h : CpeT hd k x y) (h1 : k ≠ 1) (h2 : k ≠ 8) (h3 : k ≠ 16) (h4 : k ≠ 19) : x = y := by
  unfold CpeT at h
  split at h
  · exact absurd rfl h1
  · exact absurd rfl h2
  · exact absurd rfl h3
  · exact absurd rfl h4
  · exact h
theorem CpeF.step (k j : Nat) (L : Nat → Bool) (v : Value) (x y : World) (hne : j ≠ k) (hL : L k = false) (hT : CpeT hd k x y) (h : CpeF m gE cap n i o2 hd wd P1 P2 L j v x) : CpeF m gE cap n i o2 hd wd P1 P2 (Inv.moreT k L) j v y := by
  refine ⟨fun h19 => ?_, ?_⟩
  · by_cases e : k = 19
    · subst e; rw [moreT_atW] at h19; cases h19
    · rw [moreT_neW (fun q => e q.symm)] at h19
      exact (h.1 h19).trans (hT.below e)
  · have hv := h.2
    unfold CpeV at hv ⊢
    split at hv
    · intro a1 a8 a16 a19
      rw [moreT_neW hne] at a1
      have e8 : k ≠ 8 := fun e => by subst e; rw [moreT_atW] at a8; cases a8
      have e16 : k ≠ 16 := fun e => by subst e; rw [moreT_atW] at a16; cases a16
      have e19 : k ≠ 19 := fun e => by subst e; rw [moreT_atW] at a19; cases a19
      rw [moreT_neW (fun q => e8 q.symm)] at a8
      rw [moreT_neW (fun q => e16 q.symm)] at a16
      rw [moreT_neW (fun q => e19 q.symm)] at a19
      rw [← hT.same (fun q => hne q.symm) e8 e16 e19]
      exact hv a1 a8 a16 a19
    · intro a8
      rw [moreT_neW hne] at a8
      obtain ⟨b1, hv⟩ := hv a8
      have e1 : k ≠ 1 := fun e => by subst e; rw [hL] at b1; cases b1
      refine ⟨by rw [moreT_neW (fun q => e1 q.symm)]; exact b1, fun a16 a19 => ?_⟩
      have e16 : k ≠ 16 := fun e => by subst e; rw [moreT_atW] at a16; cases a16
      have e19 : k ≠ 19 := fun e => by subst e; rw [moreT_atW] at a19; cases a19
      rw [moreT_neW (fun q => e16 q.symm)] at a16
      rw [moreT_neW (fun q => e19 q.symm)] at a19
      rw [← hT.same e1 (fun q => hne q.symm) e16 e19]
      exact hv a16 a19
    · intro a16
      rw [moreT_neW hne] at a16
      obtain ⟨b1, b8, hv⟩ := hv a16
      have e1 : k ≠ 1 := fun e => by subst e; rw [hL] at b1; cases b1
      have e8 : k ≠ 8 := fun e => by subst e; rw [hL] at b8; cases b8
      refine ⟨by rw [moreT_neW (fun q => e1 q.symm)]; exact b1, by rw [moreT_neW (fun q => e8 q.symm)]; exact b8, fun a19 => ?_⟩
      have e19 : k ≠ 19 := fun e => by subst e; rw [moreT_atW] at a19; cases a19
      rw [moreT_neW (fun q => e19 q.symm)] at a19
      rw [← hT.same e1 e8 (fun q => hne q.symm) e19]
      exact hv a19
    · intro a19
      rw [moreT_neW hne] at a19
      obtain ⟨ba, hv⟩ := hv a19
      have hk : ¬ k < 19 := fun q => by have := ba k q; rw [hL] at this; cases this
      refine ⟨fun q hq => by rw [moreT_neW (by omega)]; exact ba q hq, ?_⟩
      rw [← hT.same (by omega) (by omega) (by omega) (fun q => hne q.symm)]
      exact hv
    · exact fun a => hv (by rwa [moreT_neW hne] at a)
    · exact fun a => hv (by rwa [moreT_neW hne] at a)
    · exact fun a => hv (by rwa [moreT_neW hne] at a)
    · exact fun a => hv (by rwa [moreT_neW hne] at a)
    · exact fun a => hv (by rwa [moreT_neW hne] at a)
    · exact fun a => hv (by rwa [moreT_neW hne] at a)
    · exact fun a => hv (by rwa [moreT_neW hne] at a)
    · exact fun a => hv (by rwa [moreT_neW hne] at a)
    · exact fun a => hv (by rwa [moreT_neW hne] at a)
    · exact fun a => hv (by rwa [moreT_neW hne] at a)
    · exact fun a => hv (by rwa [moreT_neW hne] at a)
    · exact fun a => hv (by rwa [moreT_neW hne] at a)
    · exact fun a => hv (by rwa [moreT_neW hne] at a)
    · exact fun a => hv (by rwa [moreT_neW hne] at a)
    · exact fun a => hv (by rwa [moreT_neW hne] at a)
    · exact fun a => hv (by rwa [moreT_neW hne] at a)
    · trivial
end
/-- The rest of a slice, behind one of its elements. -/
theorem ccut_at (gE n cap i : Nat) : ∃ o2, (if cap = i + 1 then (some ⟨gE, 0, none⟩ : Option Addr) else some ⟨gE, (i + 1) * 23, none⟩) = some ⟨gE, o2, none⟩ ∧ (n ≤ cap → 0 < n - (i + 1) → o2 = (i + 1) * 23) := by
  by_cases h : cap = i + 1
  · exact ⟨0, by rw [if_pos h], fun h1 h2 => by omega⟩
  · exact ⟨(i + 1) * 23, by rw [if_neg h], fun _ _ => rfl⟩

set_option maxRecDepth 10000 in
set_option maxHeartbeats 1000000 in
theorem crefDrop_any (w : World) (B m : Nat) (E : List Ce) (h : LC w B m E) (nm : List UInt8) :
    Calls Tryd.prog 8 #[.pointer (some ⟨m, 0, none⟩), .string ⟨nm.toArray⟩] w fun e w' => e = .returned (.bool (dropD E nm).2) ∧ LC w' B m (dropD E nm).1 ∧ WrC m w w' := by
  have S0 := Lib.hid h
  cases ha : atS nmC E nm with
  | none =>
    have hd : dropD E nm = (E, false) := by unfold dropD; rw [ha]
    rw [hd]
    have HA := Lib.hid (show atIc (atS nmC E nm) = -1 by rw [ha]; rfl)
    clear h hd ha
    go_enter Tryd.func8, Tryd.ntmps8
    go_wp2_with (go_at_call 15; refine (cat_is _ B m E S0.out nm (-1) HA.out).mono ?_; rintro r wn ⟨rfl, rfl⟩)
    go_ret
    exact ⟨rfl, S0.out, World.grownBy.refl _ _⟩
  | some i =>
    obtain ⟨y, hy, hyn, -⟩ := atS_some ha
    obtain ⟨hi, -⟩ := List.getElem?_eq_some_iff.1 hy
    have hdr : dropD E nm = (E.take i ++ E.drop (i + 1), true) := by unfold dropD; rw [ha]
    rw [hdr]
    obtain ⟨⟨v, hcb0, hrow0⟩, -⟩ := h.2
    obtain ⟨gE, cap, cs, hv, hBg, hcE, hnc, hcl, htk, hcm⟩ := rowX_open hrow0 (by rw [List.length_map]; omega)
    subst hv
    rw [List.length_map] at hcb0 hnc
    obtain ⟨n, hn⟩ : ∃ n, E.length = n := ⟨_, rfl⟩
    obtain ⟨A, cap', hcb, hrow, hs⟩ := h.open_
    have hq := hcb.symm.trans hcb0
    injection hq with hq
    injection hq with hq
    injection hq with hq
    injection hq with hq
    simp at hq
    obtain ⟨rfl, rfl⟩ := hq
    rw [hn] at hcb hnc hi
    have HN := Lib.hid hn
    have HIN := Lib.hid (show (i : Int) < (n : Int) by omega)
    have HI := Lib.hid hi
    have HNC := Lib.hid hnc
    have HCM := Lib.hid (show cap' ≤ 9223372036854775807 from Nat.le_trans hcm (by decide))
    have HN8 := Lib.hid (show n ≤ 8 by rw [← hn]; exact h.2.2.2)
    obtain ⟨o2, ho2, hoff⟩ := ccut_at gE n cap' i
    have HO2 := Lib.hid ho2
    have HOFF := Lib.hid (hoff hnc)
    have HSR := Lib.hid hs
    have HCB := Lib.hid hcb
    have hlt0 : ¬ ((i : Int) < 0) := by omega
    have HA := Lib.hid (show atIc (atS nmC E nm) = (i : Int) by rw [ha]; rfl)
    obtain ⟨P1, hP1⟩ : ∃ P, (E.take i).map ceC = P := ⟨_, rfl⟩
    obtain ⟨P2, hP2⟩ : ∃ P, (E.drop (i + 1)).map ceC = P := ⟨_, rfl⟩
    have HP1 := Lib.hid hP1
    have HP2 := Lib.hid hP2
    have HL1 := Lib.hid (show i = P1.length by rw [← hP1, List.length_map, List.length_take]; omega)
    have HL2 := Lib.hid (show n - (i + 1) = P2.length by rw [← hP2, List.length_map, List.length_drop]; omega)
    have HZ1 := Lib.hid (show ∀ p ∈ P1, p.length = 23 by rw [← hP1]; intro p hp; obtain ⟨q, hq, rfl⟩ := List.mem_map.1 hp; exact ceC_length (h.2.2.1 q (List.mem_of_mem_take hq)))
    have HZ2 := Lib.hid (show ∀ p ∈ P2, p.length = 23 by rw [← hP2]; intro p hp; obtain ⟨q, hq, rfl⟩ := List.mem_map.1 hp; exact ceC_length (h.2.2.1 q (List.mem_of_mem_drop hq)))
    have HY1 := Lib.hid (show ∀ p ∈ P1, ∀ u ∈ p, u.oneCell' = true by rw [← hP1]; intro p hp; obtain ⟨q, hq, rfl⟩ := List.mem_map.1 hp; exact ceC_one q)
    have HY2 := Lib.hid (show ∀ p ∈ P2, ∀ u ∈ p, u.oneCell' = true by rw [← hP2]; intro p hp; obtain ⟨q, hq, rfl⟩ := List.mem_map.1 hp; exact ceC_one q)
    have HGE := Lib.hid hcE.lt
    have HK := Lib.hid (show ∀ (k : Nat) (p : List Value), (E.map ceC)[k]? = some p → ∀ (j : Nat) (u : Value), p[j]? = some u → w.cell? ⟨gE, 0 + 23 * k + j, none⟩ = some u from by
      intro k p hk j u hj
      rcases hs.2.2 with ⟨h1, _⟩ | ⟨a, h1, _, h3⟩
      · cases h1
      · injection h1 with h1
        subst h1
        exact h3 k p hk j u hj)
    clear h hdr ha hy hyn hi hcb0 hrow0 hBg hcE hnc hcl htk hcm hn hcb hrow hs ho2 hoff hP1 hP2
    go_enter Tryd.func8, Tryd.ntmps8
    go_wp2_with (go_at_call 15; refine (cat_is _ B m E S0.out nm (i : Int) HA.out).mono ?_; rintro r wn ⟨rfl, rfl⟩)
    have CBD := Lib.hid (show ∀ x, Below wn.heap.size wn.drew x → CB x m 30 [.slice (some ⟨gE, 0, none⟩) n cap'] from fun x hx => (show CB wn.drew m 30 [.slice (some ⟨gE, 0, none⟩) n cap'] from HCB.out).below hx HCB.out.lt)
    have HKD := Lib.hid (show ∀ x, Below wn.heap.size wn.drew x → ∀ (k : Nat) (p : List Value), (E.map ceC)[k]? = some p → ∀ (j : Nat) (u : Value), p[j]? = some u → x.cell? ⟨gE, 0 + 23 * k + j, none⟩ = some u from fun x hx k p hk j u hj => (hx.cell (p := ⟨gE, _, none⟩) HGE.out).trans (HK.out k p hk j u hj))
    refine region_byW (n := 20) (ds := [some 11, some 12, some 13, some 14, some 15, some 16, some 17, some 18, some 19, some 20, some 21, some 22, some 23, some 24, some 25, some 26, some 27, some 28, some 29, none]) (CpeT wn.heap.size) (CpeF m gE cap' n i o2 wn.heap.size wn.drew P1 P2) (by kernel_rfl) (by kernel_rfl) rfl (by kernel_rfl) CpeF.step (fun j => ⟨fun _ => Below.refl _ _, ?_⟩) ⟨⟨⟨⟨⟨⟨⟨⟨⟨⟨⟨⟨⟨⟨⟨⟨⟨⟨⟨⟨trivial, ?_⟩, ?_⟩, ?_⟩, ?_⟩, ?_⟩, ?_⟩, ?_⟩, ?_⟩, ?_⟩, ?_⟩, ?_⟩, ?_⟩, ?_⟩, ?_⟩, ?_⟩, ?_⟩, ?_⟩, ?_⟩, ?_⟩, ?_⟩ ?_
    · unfold CpeV
      split <;> first | trivial | (intro h; cases h)
    · refine Inv.dutyW_plain rfl rfl (fun L vs a x l0 hU dep up val ev out K hK => ?_)
      have e0 : a.eval (.tmp 0) = .pointer (some ⟨m, 0, none⟩) := (out 0 (Inv.ne_of_outB (by kernel_rfl))).trans rfl
      refine Inv.wp_value (v := .pointer (some ⟨m, 0, none⟩)) ?_ (hK.out _ _ rfl ⟨fun hq => hU.1 (by rwa [moreT_neW (show (19 : Nat) ≠ 0 by omega)] at hq), fun _ => rfl⟩)
      clear hK K dep up val ev out hU l0
      generalize a.eval = ρ at *
      (simp [execOp, go_sem, *]; done)
    · refine Inv.dutyW_plain rfl rfl (fun L vs a x l0 hU dep up val ev out K hK => ?_)
      have h19 := (show L 19 = false by cases hq : L 19 with | false => rfl | true => (have hz := up 19 1 hq (by kernel_rfl); rw [l0] at hz; cases hz))
      have hb := hU.1 h19
      have hbel : Below wn.heap.size x (x.alloc (.cells #[] 38)) := (Below.refl _ _).alloc hb.size _
      refine Inv.wp_value' (w' := x.alloc (.cells #[] 38)) (v := .slice (some ⟨x.heap.size, 0, none⟩) 0 0) ?_ (hK.out _ _ hbel ⟨fun _ => hb.trans hbel, fun _ _ _ _ => RowX.new0 _ _ _ _ hb.size⟩)
      clear hK K dep up val ev out hU l0
      generalize a.eval = ρ at *
      (simp [execOp, go_sem, *]; done)
    · refine Inv.dutyW_plain rfl rfl (fun L vs a x l0 hU dep up val ev out K hK => ?_)
      have e0 : a.eval (.tmp 0) = .pointer (some ⟨m, 0, none⟩) := (out 0 (Inv.ne_of_outB (by kernel_rfl))).trans rfl
      refine Inv.wp_value (v := .pointer (some ⟨m, 0, none⟩)) ?_ (hK.out _ _ rfl ⟨fun hq => hU.1 (by rwa [moreT_neW (show (19 : Nat) ≠ 2 by omega)] at hq), fun _ => rfl⟩)
      clear hK K dep up val ev out hU l0
      generalize a.eval = ρ at *
      (simp [execOp, go_sem, *]; done)
    · refine Inv.dutyW_plain rfl rfl (fun L vs a x l0 hU dep up val ev out K hK => ?_)
      have L13 : L 2 = true := dep 2 (by kernel_rfl)
      have e13 : a.eval (.tmp 13) = .pointer (some ⟨m, 0, none⟩) := (ev 2 13 L13 (by kernel_rfl)).trans ((val 2 L13).2 L13)
      refine Inv.wp_value (v := .pointer (some ⟨m, 0, none⟩)) ?_ (hK.out _ _ rfl ⟨fun hq => hU.1 (by rwa [moreT_neW (show (19 : Nat) ≠ 3 by omega)] at hq), fun _ => rfl⟩)
      clear hK K dep up val ev out hU l0
      generalize a.eval = ρ at *
      (simp [execOp, go_sem, *]; done)
    · refine Inv.dutyW_plain rfl rfl (fun L vs a x l0 hU dep up val ev out K hK => ?_)
      have L14 : L 3 = true := dep 3 (by kernel_rfl)
      have e14 : a.eval (.tmp 14) = .pointer (some ⟨m, 0, none⟩) := (ev 3 14 L14 (by kernel_rfl)).trans ((val 3 L14).2 L14)
      refine Inv.wp_value (v := .pointer (some ⟨m, 0, none⟩)) ?_ (hK.out _ _ rfl ⟨fun hq => hU.1 (by rwa [moreT_neW (show (19 : Nat) ≠ 4 by omega)] at hq), fun _ => rfl⟩)
      clear hK K dep up val ev out hU l0
      generalize a.eval = ρ at *
      (simp [execOp, go_sem, *]; done)
    · refine Inv.dutyW_plain rfl rfl (fun L vs a x l0 hU dep up val ev out K hK => ?_)
      have L15 : L 4 = true := dep 4 (by kernel_rfl)
      have e15 : a.eval (.tmp 15) = .pointer (some ⟨m, 0, none⟩) := (ev 4 15 L15 (by kernel_rfl)).trans ((val 4 L15).2 L15)
      refine Inv.wp_value (v := .slice (some ⟨gE, 0, none⟩) n cap') ?_ (hK.out _ _ rfl ⟨fun hq => hU.1 (by rwa [moreT_neW (show (19 : Nat) ≠ 5 by omega)] at hq), fun _ => rfl⟩)
      have q0 := (CBD.out x (hU.1 (show L 19 = false by cases hq : L 19 with | false => rfl | true => (have hz := up 19 5 hq (by kernel_rfl); rw [l0] at hz; cases hz)))).at_ (i := 0) (v := .slice (some ⟨gE, 0, none⟩) n cap') rfl
      clear hK K dep up val ev out hU l0
      generalize a.eval = ρ at *
      (simp [execOp, go_sem, *]; done)
    · refine Inv.dutyW_plain rfl rfl (fun L vs a x l0 hU dep up val ev out K hK => ?_)
      have e5 : a.eval (.tmp 5) = .int .i64 i := (out 5 (Inv.ne_of_outB (by kernel_rfl))).trans rfl
      refine Inv.wp_value (v := .int .i64 i) ?_ (hK.out _ _ rfl ⟨fun hq => hU.1 (by rwa [moreT_neW (show (19 : Nat) ≠ 6 by omega)] at hq), fun _ => rfl⟩)
      clear hK K dep up val ev out hU l0
      generalize a.eval = ρ at *
      (simp [execOp, go_sem, *]; done)
    · refine Inv.dutyW_plain rfl rfl (fun L vs a x l0 hU dep up val ev out K hK => ?_)
      have L16 : L 5 = true := dep 5 (by kernel_rfl)
      have e16 : a.eval (.tmp 16) = .slice (some ⟨gE, 0, none⟩) n cap' := (ev 5 16 L16 (by kernel_rfl)).trans ((val 5 L16).2 L16)
      have L17 : L 6 = true := dep 6 (by kernel_rfl)
      have e17 : a.eval (.tmp 17) = .int .i64 i := (ev 6 17 L17 (by kernel_rfl)).trans ((val 6 L17).2 L17)
      refine Inv.wp_value (v := .slice (some ⟨gE, 0, none⟩) i cap') ?_ (hK.out _ _ rfl ⟨fun hq => hU.1 (by rwa [moreT_neW (show (19 : Nat) ≠ 7 by omega)] at hq), fun _ => rfl⟩)
      clear hK K dep up val ev out hU l0
      generalize a.eval = ρ at *
      have hh1 := HI.out
      have hh2 := HNC.out
      have hh3 := HCM.out
      have hic : ((i : Nat) : Int) ≤ ((cap' : Nat) : Int) := by omega
      have hh4 : i ≤ cap' := by omega
      (simp [execOp, go_sem, *]; done)
    · refine Inv.dutyW_plain rfl rfl (fun L vs a x l0 hU dep up val ev out K hK => ?_)
      have L12 : L 1 = true := dep 1 (by kernel_rfl)
      have e12 := ev 1 12 L12 (by kernel_rfl)
      have f12 := (val 1 L12).2 L12
      have L18 : L 7 = true := dep 7 (by kernel_rfl)
      have e18 : a.eval (.tmp 18) = .slice (some ⟨gE, 0, none⟩) i cap' := (ev 7 18 L18 (by kernel_rfl)).trans ((val 7 L18).2 L18)
      have h19 := (show L 19 = false by cases hq : L 19 with | false => rfl | true => (have hz := up 19 8 hq (by kernel_rfl); rw [l0] at hz; cases hz))
      have h16 : L 16 = false := by cases hq : L 16 with | false => rfl | true => (have hz := up 16 8 hq (by kernel_rfl); rw [l0] at hz; cases hz)
      have hb := hU.1 h19
      have hr := f12 l0 h16 h19
      refine wp_appXs rowCc (.tmp 12) (.tmp 18) rfl (Ps := P1) (b := gE) (off := 0) (c := cap') hr HL1.out ?_ HZ1.out HY1.out e12 e18 (by have h1 := HL1.out; have h2 := HN8.out; have h3 := HI.out; simp; omega) hb.size ?_
      · intro k p hk j u hj
        have hk' : (E.map ceC)[k]? = some p := by
          rw [← HP1.out] at hk
          rw [List.getElem?_map, List.getElem?_take] at hk
          rw [List.getElem?_map]
          by_cases hlt : k < i
          · rw [if_pos hlt] at hk; exact hk
          · rw [if_neg hlt] at hk; cases hk
        exact HKD.out x hb k p hk' j u hj
      · intro v' y ho hg hat
        have hbel : Below wn.heap.size x y := (Below.refl _ _).grown hg hb.size (fun g hq => (hr.lt g hq).1)
        exact hK.out _ _ hbel ⟨fun _ => hb.trans hbel, fun _ => ⟨by rw [moreT_neW (show (1 : Nat) ≠ 8 by omega)]; exact L12, fun _ _ => by rw [List.nil_append] at ho; exact ho⟩⟩
    · refine Inv.dutyW_plain rfl rfl (fun L vs a x l0 hU dep up val ev out K hK => ?_)
      have e0 : a.eval (.tmp 0) = .pointer (some ⟨m, 0, none⟩) := (out 0 (Inv.ne_of_outB (by kernel_rfl))).trans rfl
      refine Inv.wp_value (v := .pointer (some ⟨m, 0, none⟩)) ?_ (hK.out _ _ rfl ⟨fun hq => hU.1 (by rwa [moreT_neW (show (19 : Nat) ≠ 9 by omega)] at hq), fun _ => rfl⟩)
      clear hK K dep up val ev out hU l0
      generalize a.eval = ρ at *
      (simp [execOp, go_sem, *]; done)
    · refine Inv.dutyW_plain rfl rfl (fun L vs a x l0 hU dep up val ev out K hK => ?_)
      have L20 : L 9 = true := dep 9 (by kernel_rfl)
      have e20 : a.eval (.tmp 20) = .pointer (some ⟨m, 0, none⟩) := (ev 9 20 L20 (by kernel_rfl)).trans ((val 9 L20).2 L20)
      refine Inv.wp_value (v := .pointer (some ⟨m, 0, none⟩)) ?_ (hK.out _ _ rfl ⟨fun hq => hU.1 (by rwa [moreT_neW (show (19 : Nat) ≠ 10 by omega)] at hq), fun _ => rfl⟩)
      clear hK K dep up val ev out hU l0
      generalize a.eval = ρ at *
      (simp [execOp, go_sem, *]; done)
    · refine Inv.dutyW_plain rfl rfl (fun L vs a x l0 hU dep up val ev out K hK => ?_)
      have L21 : L 10 = true := dep 10 (by kernel_rfl)
      have e21 : a.eval (.tmp 21) = .pointer (some ⟨m, 0, none⟩) := (ev 10 21 L21 (by kernel_rfl)).trans ((val 10 L21).2 L21)
      refine Inv.wp_value (v := .pointer (some ⟨m, 0, none⟩)) ?_ (hK.out _ _ rfl ⟨fun hq => hU.1 (by rwa [moreT_neW (show (19 : Nat) ≠ 11 by omega)] at hq), fun _ => rfl⟩)
      clear hK K dep up val ev out hU l0
      generalize a.eval = ρ at *
      (simp [execOp, go_sem, *]; done)
    · refine Inv.dutyW_plain rfl rfl (fun L vs a x l0 hU dep up val ev out K hK => ?_)
      have L22 : L 11 = true := dep 11 (by kernel_rfl)
      have e22 : a.eval (.tmp 22) = .pointer (some ⟨m, 0, none⟩) := (ev 11 22 L22 (by kernel_rfl)).trans ((val 11 L22).2 L22)
      refine Inv.wp_value (v := .slice (some ⟨gE, 0, none⟩) n cap') ?_ (hK.out _ _ rfl ⟨fun hq => hU.1 (by rwa [moreT_neW (show (19 : Nat) ≠ 12 by omega)] at hq), fun _ => rfl⟩)
      have q0 := (CBD.out x (hU.1 (show L 19 = false by cases hq : L 19 with | false => rfl | true => (have hz := up 19 12 hq (by kernel_rfl); rw [l0] at hz; cases hz)))).at_ (i := 0) (v := .slice (some ⟨gE, 0, none⟩) n cap') rfl
      clear hK K dep up val ev out hU l0
      generalize a.eval = ρ at *
      (simp [execOp, go_sem, *]; done)
    · refine Inv.dutyW_plain rfl rfl (fun L vs a x l0 hU dep up val ev out K hK => ?_)
      have e5 : a.eval (.tmp 5) = .int .i64 i := (out 5 (Inv.ne_of_outB (by kernel_rfl))).trans rfl
      refine Inv.wp_value (v := .int .i64 i) ?_ (hK.out _ _ rfl ⟨fun hq => hU.1 (by rwa [moreT_neW (show (19 : Nat) ≠ 13 by omega)] at hq), fun _ => rfl⟩)
      clear hK K dep up val ev out hU l0
      generalize a.eval = ρ at *
      (simp [execOp, go_sem, *]; done)
    · refine Inv.dutyW_plain rfl rfl (fun L vs a x l0 hU dep up val ev out K hK => ?_)
      have ek : ∀ u, a.eval (.const u) = u := fun _ => rfl
      have L24 : L 13 = true := dep 13 (by kernel_rfl)
      have e24 : a.eval (.tmp 24) = .int .i64 i := (ev 13 24 L24 (by kernel_rfl)).trans ((val 13 L24).2 L24)
      refine Inv.wp_value (v := .int .i64 ((i + 1 : Nat) : Int)) ?_ (hK.out _ _ rfl ⟨fun hq => hU.1 (by rwa [moreT_neW (show (19 : Nat) ≠ 14 by omega)] at hq), fun _ => rfl⟩)
      clear hK K dep up val ev out hU l0
      generalize a.eval = ρ at *
      have hh1 := HI.out
      have hh2 := HN8.out
      have hwr : IntKind.i64.wrap ((i : Int) + 1) = ((i + 1 : Nat) : Int) := by rw [wrap_small _ (by omega) (by omega)]; omega
      (simp [execOp, go_sem, *]; done)
    · refine Inv.dutyW_plain rfl rfl (fun L vs a x l0 hU dep up val ev out K hK => ?_)
      have L23 : L 12 = true := dep 12 (by kernel_rfl)
      have e23 : a.eval (.tmp 23) = .slice (some ⟨gE, 0, none⟩) n cap' := (ev 12 23 L23 (by kernel_rfl)).trans ((val 12 L23).2 L23)
      have L25 : L 14 = true := dep 14 (by kernel_rfl)
      have e25 : a.eval (.tmp 25) = .int .i64 ((i + 1 : Nat) : Int) := (ev 14 25 L25 (by kernel_rfl)).trans ((val 14 L25).2 L25)
      refine Inv.wp_value (v := .slice (some ⟨gE, o2, none⟩) (n - (i + 1)) (cap' - (i + 1))) ?_ (hK.out _ _ rfl ⟨fun hq => hU.1 (by rwa [moreT_neW (show (19 : Nat) ≠ 15 by omega)] at hq), fun _ => rfl⟩)
      clear hK K dep up val ev out hU l0
      generalize a.eval = ρ at *
      have hh1 := HI.out
      have hh2 := HNC.out
      have hh3 := HCM.out
      have hh5 := HO2.out
      have hic : ((i + 1 : Nat) : Int) ≤ ((n : Nat) : Int) := by omega
      have hih : ((n : Nat) : Int) ≤ ((cap' : Nat) : Int) := by omega
      have hj0 : (0 : Int) ≤ (i : Int) + 1 := by omega
      have hj1 : (i : Int) + 1 ≤ (n : Int) := by omega
      (simp [execOp, go_sem, *]; done)
    · refine Inv.dutyW_plain rfl rfl (fun L vs a x l0 hU dep up val ev out K hK => ?_)
      have L19 : L 8 = true := dep 8 (by kernel_rfl)
      have e19 := ev 8 19 L19 (by kernel_rfl)
      have f19 := (val 8 L19).2 L19
      have L26 : L 15 = true := dep 15 (by kernel_rfl)
      have e26 : a.eval (.tmp 26) = .slice (some ⟨gE, o2, none⟩) (n - (i + 1)) (cap' - (i + 1)) := (ev 15 26 L26 (by kernel_rfl)).trans ((val 15 L26).2 L26)
      have h19 := (show L 19 = false by cases hq : L 19 with | false => rfl | true => (have hz := up 19 16 hq (by kernel_rfl); rw [l0] at hz; cases hz))
      have hb := hU.1 h19
      obtain ⟨l1, hr0⟩ := f19
      have hr := hr0 l0 h19
      refine wp_appXs rowCc (.tmp 19) (.tmp 26) rfl (Ps := P2) (b := gE) (off := o2) (c := cap' - (i + 1)) hr HL2.out ?_ HZ2.out HY2.out e19 e26 (by have h1 := HL1.out; have h4 := HL2.out; have h2 := HN8.out; have h3 := HI.out; omega) hb.size ?_
      · intro k p hk j u hj
        have hkl : k < P2.length := (List.getElem?_eq_some_iff.1 hk).1
        have ho := HOFF.out (by have := HL2.out; omega)
        have hk' : (E.map ceC)[k + (i + 1)]? = some p := by
          rw [← HP2.out] at hk
          rw [List.getElem?_map, List.getElem?_drop] at hk
          rw [List.getElem?_map, Nat.add_comm]
          exact hk
        have h9 := HKD.out x hb (k + (i + 1)) p hk' j u hj
        rw [ho]
        rwa [show 0 + 23 * (k + (i + 1)) + j = (i + 1) * 23 + 23 * k + j by omega] at h9
      · intro v' y ho hg hat
        have hbel : Below wn.heap.size x y := (Below.refl _ _).grown hg hb.size (fun g hq => (hr.lt g hq).1)
        exact hK.out _ _ hbel ⟨fun _ => hb.trans hbel, fun _ => ⟨by rw [moreT_neW (show (1 : Nat) ≠ 16 by omega)]; exact l1, by rw [moreT_neW (show (8 : Nat) ≠ 16 by omega)]; exact L19, fun _ => ho⟩⟩
    · refine Inv.dutyW_plain rfl rfl (fun L vs a x l0 hU dep up val ev out K hK => ?_)
      have L11 : L 0 = true := dep 0 (by kernel_rfl)
      have e11 : a.eval (.tmp 11) = .pointer (some ⟨m, 0, none⟩) := (ev 0 11 L11 (by kernel_rfl)).trans ((val 0 L11).2 L11)
      refine Inv.wp_value (v := .pointer (some ⟨m, 0, none⟩)) ?_ (hK.out _ _ rfl ⟨fun hq => hU.1 (by rwa [moreT_neW (show (19 : Nat) ≠ 17 by omega)] at hq), fun _ => rfl⟩)
      clear hK K dep up val ev out hU l0
      generalize a.eval = ρ at *
      (simp [execOp, go_sem, *]; done)
    · refine Inv.dutyW_plain rfl rfl (fun L vs a x l0 hU dep up val ev out K hK => ?_)
      have L28 : L 17 = true := dep 17 (by kernel_rfl)
      have e28 : a.eval (.tmp 28) = .pointer (some ⟨m, 0, none⟩) := (ev 17 28 L28 (by kernel_rfl)).trans ((val 17 L28).2 L28)
      refine Inv.wp_value (v := .pointer (some ⟨m, 0, none⟩)) ?_ (hK.out _ _ rfl ⟨fun hq => hU.1 (by rwa [moreT_neW (show (19 : Nat) ≠ 18 by omega)] at hq), fun _ => rfl⟩)
      clear hK K dep up val ev out hU l0
      generalize a.eval = ρ at *
      (simp [execOp, go_sem, *]; done)
    · refine Inv.dutyW_plain rfl rfl (fun L vs a x l0 hU dep up val ev out K hK => ?_)
      have L27 : L 16 = true := dep 16 (by kernel_rfl)
      have e27 := ev 16 27 L27 (by kernel_rfl)
      have f27 := (val 16 L27).2 L27
      have L29 : L 18 = true := dep 18 (by kernel_rfl)
      have e29 : a.eval (.tmp 29) = .pointer (some ⟨m, 0, none⟩) := (ev 18 29 L29 (by kernel_rfl)).trans ((val 18 L29).2 L29)
      have hb := hU.1 l0
      obtain ⟨_, _, hr0⟩ := f27
      have hr := hr0 l0
      have hall : ∀ j, j < 19 → L j = true := by
        intro j hj
        rcases (show j = 0 ∨ j = 1 ∨ j = 2 ∨ j = 3 ∨ j = 4 ∨ j = 5 ∨ j = 6 ∨ j = 7 ∨ j = 8 ∨ j = 9 ∨ j = 10 ∨ j = 11 ∨ j = 12 ∨ j = 13 ∨ j = 14 ∨ j = 15 ∨ j = 16 ∨ j = 17 ∨ j = 18 by omega) with rfl | rfl | rfl | rfl | rfl | rfl | rfl | rfl | rfl | rfl | rfl | rfl | rfl | rfl | rfl | rfl | rfl | rfl | rfl
        · exact dep 0 (by kernel_rfl)
        · exact dep 1 (by kernel_rfl)
        · exact dep 2 (by kernel_rfl)
        · exact dep 3 (by kernel_rfl)
        · exact dep 4 (by kernel_rfl)
        · exact dep 5 (by kernel_rfl)
        · exact dep 6 (by kernel_rfl)
        · exact dep 7 (by kernel_rfl)
        · exact dep 8 (by kernel_rfl)
        · exact dep 9 (by kernel_rfl)
        · exact dep 10 (by kernel_rfl)
        · exact dep 11 (by kernel_rfl)
        · exact dep 12 (by kernel_rfl)
        · exact dep 13 (by kernel_rfl)
        · exact dep 14 (by kernel_rfl)
        · exact dep 15 (by kernel_rfl)
        · exact dep 16 (by kernel_rfl)
        · exact up 18 17 (dep 18 (by kernel_rfl)) (by kernel_rfl)
        · exact dep 18 (by kernel_rfl)
      obtain ⟨Ao, co, hvo, -, -⟩ := hr.shape
      refine wp_storeC (d := none) (off := 0) (p := [.slice Ao (P1 ++ P2).length co]) (n := 1) szLC rfl (.tmp 29) (.tmp 27) rfl (.slice Ao (P1 ++ P2).length co) rfl (by intro u hu; rw [List.mem_singleton.1 hu]; rfl) (CBD.out x hb) rfl (by simp) e29 (e27.trans hvo) ?_
      intro y hc' hg'
      rw [over_all _ _ (by simp)] at hc'
      refine hK.out _ _ trivial ⟨fun hq => (by rw [moreT_atW] at hq; cases hq), fun _ => ⟨fun j hj => by rw [moreT_neW (i := 19) (j := j) (by omega)]; exact hall j hj, (grown_trans' (grown_some (none_of_below hb (Nat.le_refl _)) m) hg'), _, hc', ?_⟩⟩
      have hr' := hr.row hg' (hr.ne_cells (CBD.out x hb) (by decide))
      rw [hvo] at hr'
      exact hr'
    · intro vs L w' hL hf
      obtain ⟨-, h19⟩ := hf 19 (by omega)
      obtain ⟨-, hg, v9, hc9, hr9⟩ := h19 (hL 19 (by omega))
      simp only [Inv.putAll, Act.put, List.setIfInBounds_toArray, List.set_cons_zero, List.set_cons_succ, Nat.zero_add, Nat.reduceAdd]
      have HG := Lib.hid hg
      have HC9 := Lib.hid hc9
      have HR9 := Lib.hid hr9
      clear hf h19 hg hc9 hr9 hL
      go_wp2
      go_ret
      refine ⟨rfl, ⟨S0.out.1, ⟨v9, HC9.out, ?_⟩, fun x hx => ?_, ?_⟩, grown_undrew HG.out⟩
      · rw [List.map_append, HP1.out, HP2.out]
        exact HR9.out.base_ (Nat.le_trans S0.out.1 (Nat.le_of_lt HCB.out.lt))
      · rcases List.mem_append.1 hx with hx | hx
        · exact S0.out.2.2.1 x (List.mem_of_mem_take hx)
        · exact S0.out.2.2.1 x (List.mem_of_mem_drop hx)
      · rw [List.length_append, List.length_take, List.length_drop]
        have h1 := S0.out.2.2.2
        omega
end Go.Proofs.YtfpcabfpnekejaaDoor
