/- The document's Remove. -/
import Derived.Test.YtjonnamemmleiaaGreatDoorUal
import Derived.Test.YtjonnamemmleiaaGreatDoorInw
namespace Go.Proofs.YtjonnamemmleiaaGreatDoor
open Go.RowKit Go.Maps Go.WideMaps

section
variable (m gE cap n i o2 hd : Nat) (wd : World) (P1 P2 : List (List Value))
/-- What the operations of Remove's region yield, and what they leave. -/
def UamV (L : Nat → Bool) : Nat → Value → World → Prop
  | 1, v, x => L 1 = true → L 8 = false → L 16 = false → L 19 = false → RowX x hd 63 5 v []
  | 8, v, x => L 8 = true → L 1 = true ∧ (L 16 = false → L 19 = false → RowX x hd 63 5 v P1)
  | 16, v, x => L 16 = true → L 1 = true ∧ L 8 = true ∧ (L 19 = false → RowX x hd 63 5 v (P1 ++ P2))
  | 19, _, x => L 19 = true → (∀ j, j < 19 → L j = true) ∧ wd.grownBy x (some m) ∧ ∃ v, CB x m 46 [v] ∧ RowX x hd 63 5 v (P1 ++ P2)
  | 0, v, _ => L 0 = true → v = .pointer (some ⟨m, 0, none⟩)
  | 2, v, _ => L 2 = true → v = .pointer (some ⟨m, 0, none⟩)
  | 3, v, _ => L 3 = true → v = .pointer (some ⟨m, 0, none⟩)
  | 4, v, _ => L 4 = true → v = .pointer (some ⟨m, 0, none⟩)
  | 5, v, _ => L 5 = true → v = .slice (some ⟨gE, 0, none⟩) n cap
  | 6, v, _ => L 6 = true → v = .int .i64 i
  | 7, v, _ => L 7 = true → v = .slice (some ⟨gE, 0, none⟩) i cap
  | 9, v, _ => L 9 = true → v = .pointer (some ⟨m, 0, none⟩)
  | 10, v, _ => L 10 = true → v = .pointer (some ⟨m, 0, none⟩)
  | 11, v, _ => L 11 = true → v = .pointer (some ⟨m, 0, none⟩)
  | 12, v, _ => L 12 = true → v = .slice (some ⟨gE, 0, none⟩) n cap
  | 13, v, _ => L 13 = true → v = .int .i64 i
  | 14, v, _ => L 14 = true → v = .int .i64 ((i + 1 : Nat) : Int)
  | 15, v, _ => L 15 = true → v = .slice (some ⟨gE, o2, none⟩) (n - (i + 1)) (cap - (i + 1))
  | 17, v, _ => L 17 = true → v = .pointer (some ⟨m, 0, none⟩)
  | 18, v, _ => L 18 = true → v = .pointer (some ⟨m, 0, none⟩)
  | _, _, _ => True
def UamF (L : Nat → Bool) (j : Nat) (v : Value) (x : World) : Prop := (L 19 = false → Below hd wd x) ∧ UamV m gE cap n i o2 hd wd P1 P2 L j v x
def UamT : Nat → World → World → Prop
  | 1, x, y => Below hd x y
  | 8, x, y => Below hd x y
  | 16, x, y => Below hd x y
  | 19, _, _ => True
  | _, x, y => x = y
end
theorem moreT_neW {L : Nat → Bool} {i j : Nat} (h : j ≠ i) : Inv.moreT i L j = L j := by
  unfold Inv.moreT
  rw [decide_eq_false (fun e => h e.symm), Bool.false_or]
theorem moreT_atW {L : Nat → Bool} {i : Nat} : Inv.moreT i L i = true := by unfold Inv.moreT; simp
section
variable {m gE cap n i o2 hd : Nat} {wd : World} {P1 P2 : List (List Value)}
theorem UamT.below {k : Nat} {x y : World} (h : UamT hd k x y) (hk : k ≠ 19) : Below hd x y := by
  unfold UamT at h
  split at h
  · exact h
  · exact h
  · exact h
  · exact absurd rfl hk
  · subst h; exact Below.refl _ _
theorem UamT.same {k : Nat} {x y : World} (h : UamT hd k x y) (h1 : k ≠ 1) (h2 : k ≠ 8) (h3 : k ≠ 16) (h4 : k ≠ 19) : x = y := by
  unfold UamT at h
  split at h
  · exact absurd rfl h1
  · exact absurd rfl h2
  · exact absurd rfl h3
  · exact absurd rfl h4
  · exact h
theorem UamF.step (k j : Nat) (L : Nat → Bool) (v : Value) (x y : World) (hne : j ≠ k) (hL : L k = false) (hT : UamT hd k x y) (h : UamF m gE cap n i o2 hd wd P1 P2 L j v x) : UamF m gE cap n i o2 hd wd P1 P2 (Inv.moreT k L) j v y := by
  refine ⟨fun h19 => ?_, ?_⟩
  · by_cases e : k = 19
    · subst e; rw [moreT_atW] at h19; cases h19
    · rw [moreT_neW (fun q => e q.symm)] at h19
      exact (h.1 h19).trans (hT.below e)
  · have hv := h.2
    unfold UamV at hv ⊢
    split at hv
    · intro a1 a8 a16 a19
      rw [moreT_neW hne] at a1
      have e8 : k ≠ 8 := fun e => by subst e; rw [moreT_atW] at a8; cases a8
      have e16 : k ≠ 16 := fun e => by subst e; rw [moreT_atW] at a16; cases a16
      have e49 : k ≠ 19 := fun e => by subst e; rw [moreT_atW] at a19; cases a19
      rw [moreT_neW (fun q => e8 q.symm)] at a8
      rw [moreT_neW (fun q => e16 q.symm)] at a16
      rw [moreT_neW (fun q => e49 q.symm)] at a19
      rw [← hT.same (fun q => hne q.symm) e8 e16 e49]
      exact hv a1 a8 a16 a19
    · intro a8
      rw [moreT_neW hne] at a8
      obtain ⟨b1, hv⟩ := hv a8
      have e1 : k ≠ 1 := fun e => by subst e; rw [hL] at b1; cases b1
      refine ⟨by rw [moreT_neW (fun q => e1 q.symm)]; exact b1, fun a16 a19 => ?_⟩
      have e16 : k ≠ 16 := fun e => by subst e; rw [moreT_atW] at a16; cases a16
      have e49 : k ≠ 19 := fun e => by subst e; rw [moreT_atW] at a19; cases a19
      rw [moreT_neW (fun q => e16 q.symm)] at a16
      rw [moreT_neW (fun q => e49 q.symm)] at a19
      rw [← hT.same e1 (fun q => hne q.symm) e16 e49]
      exact hv a16 a19
    · intro a16
      rw [moreT_neW hne] at a16
      obtain ⟨b1, b8, hv⟩ := hv a16
      have e1 : k ≠ 1 := fun e => by subst e; rw [hL] at b1; cases b1
      have e8 : k ≠ 8 := fun e => by subst e; rw [hL] at b8; cases b8
      refine ⟨by rw [moreT_neW (fun q => e1 q.symm)]; exact b1, by rw [moreT_neW (fun q => e8 q.symm)]; exact b8, fun a19 => ?_⟩
      have e49 : k ≠ 19 := fun e => by subst e; rw [moreT_atW] at a19; cases a19
      rw [moreT_neW (fun q => e49 q.symm)] at a19
      rw [← hT.same e1 e8 (fun q => hne q.symm) e49]
      exact hv a19
    · intro a19
      rw [moreT_neW hne] at a19
      obtain ⟨ba, hv⟩ := hv a19
      have hk : ¬ k < 19 := fun q => by have := ba k q; rw [hL] at this; cases this
      refine ⟨fun q hq => by rw [moreT_neW (by omega)]; exact ba q hq, ?_⟩
      rw [← hT.same (by omega) (by omega) (by omega) (fun q => hne q.symm)]
      exact hv
    · exact fun a => hv (by rwa [moreT_neW hne] at a)
    · exact fun a => hv (by rwa [moreT_neW hne] at a)
    · exact fun a => hv (by rwa [moreT_neW hne] at a)
    · exact fun a => hv (by rwa [moreT_neW hne] at a)
    · exact fun a => hv (by rwa [moreT_neW hne] at a)
    · exact fun a => hv (by rwa [moreT_neW hne] at a)
    · exact fun a => hv (by rwa [moreT_neW hne] at a)
    · exact fun a => hv (by rwa [moreT_neW hne] at a)
    · exact fun a => hv (by rwa [moreT_neW hne] at a)
    · exact fun a => hv (by rwa [moreT_neW hne] at a)
    · exact fun a => hv (by rwa [moreT_neW hne] at a)
    · exact fun a => hv (by rwa [moreT_neW hne] at a)
    · exact fun a => hv (by rwa [moreT_neW hne] at a)
    · exact fun a => hv (by rwa [moreT_neW hne] at a)
    · exact fun a => hv (by rwa [moreT_neW hne] at a)
    · exact fun a => hv (by rwa [moreT_neW hne] at a)
    · trivial
end
/-- The rest of a slice, behind one of its elements. -/
theorem cut_at5 (gE n cap i : Nat) : ∃ o2, (if cap = i + 1 then (some ⟨gE, 0, none⟩ : Option Addr) else some ⟨gE, (i + 1) * 5, none⟩) = some ⟨gE, o2, none⟩ ∧ (n ≤ cap → 0 < n - (i + 1) → o2 = (i + 1) * 5) := by
  by_cases h : cap = i + 1
  · exact ⟨0, by rw [if_pos h], fun h1 h2 => by omega⟩
  · exact ⟨(i + 1) * 5, by rw [if_neg h], fun _ _ => rfl⟩
/-- What Remove answers, its names looked at. -/
def removeD (N : List (List UInt8 × Nd)) (who : ByteArray) (p : List UInt8) : Int := if removeC N who p ≠ 0 then removeC N who p else if kidsM N p ≠ [] then 115 else 0
def removeA (N : List (List UInt8 × Nd)) (who : ByteArray) (p : List UInt8) : Act8 := if removeD N who p = 0 then .del p else .stay

set_option maxRecDepth 10000 in
set_option maxHeartbeats 8000000 in
theorem rremove_any (w : World) (rb : Nat) (v : Value) (N : List (List UInt8 × Nd)) (h : RT w rb v N) (hok : ∀ x ∈ N, pathOk x.1 = true ∧ x.1.length ≤ 300) (who s : ByteArray) (p : List UInt8) (hp : s.data.toList = p) (hs : p.length ≤ 300) :
    Calls Tryz.prog 18 #[.pointer (some ⟨rb, 0, none⟩), .string who, .string s] w fun e w' => e = .returned (.int .i64 (removeD N who p)) ∧ RDone w.heap.size w w' rb v N (removeA N who p) := by
  have CA := rcome_any w rb v N h who s p hp (by omega)
  have HT := Lib.hid h
  obtain rfl := bytes_of hp
  have stay : ∀ c, c ≠ 0 → removeC N who p = c → removeD N who p = c ∧ removeA N who p = .stay := fun c h0 hc => by
    have h1 : removeD N who p = c := by unfold removeD; rw [hc, if_pos h0]
    exact ⟨h1, by unfold removeA; rw [h1, if_neg h0]⟩
  obtain ⟨c, hcc⟩ : ∃ c, (comeR N who p).2 = c := ⟨_, rfl⟩
  rw [hcc] at CA
  have CC := Lib.hid CA
  clear CA
  by_cases h0 : c ≠ 0
  · have hS := stay c h0 (by unfold removeC; rw [hcc, if_pos h0])
    have hcq : (c == 0) = false := beq_eq_false_iff_ne.2 h0
    rw [hS.1, hS.2]
    clear hcc hp hs h hok stay hS
    go_enter Tryz.func18, Tryz.ntmps18
    go_wp2_with (go_at_call 53; refine CC.out.mono ?_; rintro e w1 ⟨rfl, g1⟩; have G1 := Lib.hid g1; clear g1)
    go_ret
    exact ⟨rfl, RDone.stay HT.out G1.out⟩
  have h0' : c = 0 := Classical.byContradiction h0
  subst h0'
  by_cases h47 : p = [47]
  · have hS := stay 1 (by decide) (by unfold removeC; rw [hcc, if_neg (by decide), if_pos h47])
    rw [hS.1, hS.2]
    subst h47
    clear hcc hp hs h hok stay hS h0
    go_enter Tryz.func18, Tryz.ntmps18
    go_wp2_with (go_at_call 53; refine CC.out.mono ?_; rintro e w1 ⟨rfl, g1⟩; have G1 := Lib.hid g1; clear g1)
    go_ret
    exact ⟨rfl, RDone.stay HT.out G1.out⟩
  have n1 : (p == [47]) = false := beq_eq_false_iff_ne.2 h47
  cases hl : N.lookup p with
  | none =>
    have hS := stay 110 (by decide) (by unfold removeC; rw [hcc, if_neg (by decide), if_neg h47, hl])
    have HL := Lib.hid hl
    rw [hS.1, hS.2]
    clear hcc hp hs h hok stay hS h0 hl h47
    go_enter Tryz.func18, Tryz.ntmps18
    go_wp2_with (first
      | (go_at_call 53; refine CC.out.mono ?_; rintro e w1 ⟨rfl, g1⟩; have G1 := Lib.hid g1; clear g1)
      | (go_at_call 54; refine (rat_no _ rb v N (HT.out.far G1.out (by simp) (by simp) (by simp)) p HL.out).mono ?_; rintro e w2 ⟨rfl, rfl⟩))
    go_ret
    exact ⟨rfl, RDone.stay HT.out G1.out⟩
  | some nd =>
    obtain ⟨a, b, pn, hab0, hb, -, hpn, -⟩ := parent_in' hcc h47
    obtain ⟨i, hi, hix⟩ := look_some h.nodup hl
    obtain ⟨k, hk, hkx⟩ := look_some h.nodup hpn
    have hC : removeC N who p = if mayOk who 2 pn.owner pn.mode = false then 114 else 0 := by unfold removeC; rw [hcc, if_neg (by decide), if_neg h47, hl, hpn]
    obtain ⟨gE, cap', cs, hv, -, hcE, hnc, hcz, htk, hcm⟩ := rowX_open h.row (by have := (List.getElem?_eq_some_iff.1 hix).1; rw [List.length_map]; omega)
    rw [List.length_map] at hv hnc
    obtain ⟨n, hn⟩ : ∃ n, N.length = n := ⟨_, rfl⟩
    have htop := h.top
    rw [hv, hn] at htop
    have hin := (List.getElem?_eq_some_iff.1 hix).1
    have hkn := (List.getElem?_eq_some_iff.1 hkx).1
    rw [hn] at hin hkn hnc
    obtain ⟨ab, ao, cap2, hv2, hab, -, hcl⟩ := h.elem hkx
    have hv3 := hv.symm.trans hv2
    injection hv3 with hv4 hv5 hv6
    injection hv4 with hv4
    injection hv4 with hv4 hv7
    subst hv4 hv7 hv6
    have HN := Lib.hid hn
    have HI := Lib.hid hi
    have HK := Lib.hid hk
    have HTP := Lib.hid htop
    have HV := Lib.hid hv
    have HIX := Lib.hid hix
    have HPM := Lib.hid (h.mode _ (List.mem_of_getElem? hkx))
    have PR := Lib.hid (fun W => refParent_any ⟨p.toArray⟩ p a b rfl hab0 hb (show p.length ≤ 1000000 by omega) W)
    have hki : (k : Int) < (n : Int) := by omega
    have hk0 : ¬ (k : Int) < 0 := by omega
    have hii : (i : Int) < (n : Int) := by omega
    have hi0 : ¬ (i : Int) < 0 := by omega
    have hn64 : n ≤ 64 := by rw [← hn]; exact h.len
    have HCL := Lib.hid (fun (wx : World) (hx : w.grownBy wx none) (j : Nat) (u : Value) (hj : (ndC (parOf p, pn))[j]? = some u) => ((below_of_none hx).cell (p := ⟨gE, 0 + k * 5 + j, none⟩) hab).trans (hcl j u hj))
    have HLP := Lib.hid hl
    have H47 := Lib.hid h47
    cases hmy : mayOk who 2 pn.owner pn.mode with
    | false =>
      have hS := stay 114 (by decide) (by rw [hC, if_pos hmy])
      have HMY := Lib.hid hmy
      rw [hS.1, hS.2]
      clear hcc hp hs h hok stay h0 hl h47 hab0 hb hpn hi hix hk hkx hC hv hcE hnc hcz htk hcm hn htop hin hkn hv2 hab hcl hS hmy
      go_enter Tryz.func18, Tryz.ntmps18
      go_wp2_with (first
        | (go_at_call 53; refine CC.out.mono ?_; rintro e w1 ⟨rfl, g1⟩; have G1 := Lib.hid g1; clear g1)
        | (go_at_call 54; refine (rat_yes _ rb v N (HT.out.far G1.out (by simp) (by simp) (by simp)) p i HI.out).mono ?_; rintro e w2 ⟨rfl, rfl⟩))
      obtain ⟨wa, hwa⟩ : ∃ x, x = w2 := ⟨_, rfl⟩
      rw [← hwa] at G1 ⊢
      clear hwa
      have HCT := Lib.hid (fun (wx : World) (hx : wa.grownBy wx none) => (HTP.out.kept (grown_trans' G1.out hx)).at_ (i := 0) (v := .slice (some ⟨gE, 0, none⟩) n cap') rfl)
      have HCX := Lib.hid (fun (wx : World) (hx : wa.grownBy wx none) (j : Nat) (u : Value) (hj : (ndC (parOf p, pn))[j]? = some u) => (show wx.cell? ⟨gE, k * 5 + j, none⟩ = some u from by have := HCL.out wx (grown_trans' G1.out hx) j u hj; rwa [Nat.zero_add] at this))
      refine helds_begin (fun W => wa.grownBy W none) (by kernel_rfl) (grown_drew (World.grownBy.refl _ _)) (fun _ => ?_)
      refine helds_take (i := 0) (d := some 23) (v := ?vUE_1) (by assumption) rfl rfl (by kernel_rfl) (fun _ _ _ h => h) ?yUE_1 ?_; case yUE_1 => (refine Or.inl ⟨rfl, fun wx hS => ?_⟩; go_simp; try with_reducible rfl)
      try simp only [Act.put, List.setIfInBounds_toArray, List.set_cons_zero, List.set_cons_succ]
      refine helds_take (i := 1) (d := some 24) (v := ?vUE_2) (by assumption) rfl rfl (by kernel_rfl) (fun _ _ _ h => h) ?yUE_2 ?_; case yUE_2 => (refine Or.inl ⟨rfl, fun wx hS => ?_⟩; go_simp; try with_reducible rfl)
      try simp only [Act.put, List.setIfInBounds_toArray, List.set_cons_zero, List.set_cons_succ]
      refine helds_take (i := 2) (d := some 25) (v := ?vUE_3) (by assumption) rfl rfl (by kernel_rfl) (fun _ _ _ h => h) ?yUE_3 ?_; case yUE_3 => (refine Or.inl ⟨rfl, fun wx hS => ?_⟩; go_simp; try with_reducible rfl)
      try simp only [Act.put, List.setIfInBounds_toArray, List.set_cons_zero, List.set_cons_succ]
      refine helds_take (i := 3) (d := some 26) (v := ?vUE_4) (by assumption) rfl rfl (by kernel_rfl) (fun _ _ _ h => h) ?yUE_4 ?_; case yUE_4 => (refine Or.inl ⟨rfl, fun wx hS => ?_⟩; go_simp; try with_reducible rfl)
      try simp only [Act.put, List.setIfInBounds_toArray, List.set_cons_zero, List.set_cons_succ]
      refine helds_take (i := 4) (d := some 27) (v := ?vUE_5) (by assumption) rfl rfl (by kernel_rfl) (fun _ _ _ h => h) ?yUE_5 ?_; case yUE_5 => (refine Or.inl ⟨rfl, fun wx hS => ?_⟩; have hk := HCT.out wx hS; go_simp; try with_reducible rfl)
      try simp only [Act.put, List.setIfInBounds_toArray, List.set_cons_zero, List.set_cons_succ]
      refine helds_take (i := 5) (d := some 28) (v := ?vUE_6) (by assumption) rfl rfl (by kernel_rfl) (fun _ _ _ h => h) ?yUE_6 ?_; case yUE_6 => (refine Or.inl ⟨rfl, fun wx hS => ?_⟩; go_simp; try with_reducible rfl)
      try simp only [Act.put, List.setIfInBounds_toArray, List.set_cons_zero, List.set_cons_succ]
      refine helds_take (i := 6) (d := some 29) (v := ?vUE_7) (by assumption) rfl rfl (by kernel_rfl) (fun _ _ _ h => h) ?yUE_7 ?_; case yUE_7 => (refine Or.inl ⟨rfl, fun wx hS => ?_⟩; go_simp; try with_reducible rfl)
      try simp only [Act.put, List.setIfInBounds_toArray, List.set_cons_zero, List.set_cons_succ]
      refine helds_one (i := 7) rfl (by kernel_rfl) rfl (fun K hK => ?_)
      refine wp_callU (d := some 30) (f := 55) (args := #[.string ⟨p.toArray⟩]) rfl (by first | rfl | go_simp) ?_
      refine (PR.out _).mono ?_
      rintro e w5 ⟨rfl, rfl⟩
      refine ⟨_, rfl, ?_⟩
      refine hK.out _ _ (by assumption) (fun _ => ?_)
      clear hK K
      try simp only [Act.put, List.setIfInBounds_toArray, List.set_cons_zero, List.set_cons_succ]
      refine helds_one (i := 8) rfl (by kernel_rfl) rfl (fun K hK => ?_)
      refine wp_callU (d := some 31) (f := 54) (args := #[.pointer (some ⟨rb, 0, none⟩), .string ⟨(parOf p).toArray⟩]) rfl (by first | rfl | go_simp) ?_
      refine (rat_yes _ rb v N (HT.out.far (grown_trans' G1.out (by assumption)) (by simp) (by simp) (by simp)) (parOf p) k HK.out).mono ?_
      rintro e w6 ⟨rfl, rfl⟩
      refine ⟨_, rfl, ?_⟩
      refine hK.out _ _ (by assumption) (fun _ => ?_)
      clear hK K
      try simp only [Act.put, List.setIfInBounds_toArray, List.set_cons_zero, List.set_cons_succ]
      refine helds_take (i := 9) (d := some 32) (v := ?vUE_8) (by assumption) rfl rfl (by kernel_rfl) (fun _ _ _ h => h) ?yUE_8 ?_; case yUE_8 => (refine Or.inl ⟨rfl, fun wx hS => ?_⟩; go_simp; try with_reducible rfl)
      try simp only [Act.put, List.setIfInBounds_toArray, List.set_cons_zero, List.set_cons_succ]
      refine helds_take (i := 10) (d := some 33) (v := _) (by assumption) rfl rfl (by kernel_rfl) (fun _ _ _ h => h) (yields_loadX (p := ndC (parOf p, pn)) (b := gE) (off := k * 5) aggNd (.tmp 32) rfl rfl HCX.out rfl (by first | rfl | go_simp)) ?_
      try simp only [Act.put, List.setIfInBounds_toArray, List.set_cons_zero, List.set_cons_succ]
      refine helds_one (i := 11) rfl (by kernel_rfl) rfl (fun K hK => ?_)
      refine wp_callU (d := some 34) (f := 49) (args := #[.string who, .agg (ndC (parOf p, pn)).toArray, .int .i64 2]) rfl (by first | rfl | go_simp) ?_
      refine (rmay_any _ who 2 ⟨(parOf p).toArray⟩ pn.owner pn.dir pn.mode pn.data HPM.out (.inr (.inl rfl))).mono ?_
      rw [HMY.out]
      rintro e w7 ⟨rfl, g7⟩
      refine ⟨_, rfl, ?_⟩
      have hS7 : wa.grownBy w7 none := grown_trans' (by assumption) g7
      have GS := Lib.hid (grown_trans' G1.out hS7)
      clear g7
      refine hK.out _ _ (by assumption) (fun _ => ?_)
      clear hK K
      try simp only [Act.put, List.setIfInBounds_toArray, List.set_cons_zero, List.set_cons_succ]
      refine helds_take (i := 12) (d := some 35) (v := ?vUE_10) (by assumption) rfl rfl (by kernel_rfl) (fun _ _ _ h => h) ?yUE_10 ?_; case yUE_10 => (refine Or.inl ⟨rfl, fun wx hS => ?_⟩; go_simp; try with_reducible rfl)
      try simp only [Act.put, List.setIfInBounds_toArray, List.set_cons_zero, List.set_cons_succ]
      refine held_end (by kernel_rfl) ?_ _
      go_wp2
      go_ret
      exact ⟨rfl, RDone.stay HT.out GS.out⟩
    | true =>
      rw [if_neg (by rw [hmy]; decide)] at hC
      have HMY := Lib.hid hmy
      have NA := Lib.hid (fun W (hW : RT W rb v N) => rnames_any W rb v N hW hok ⟨p.toArray⟩ p rfl hs)
      by_cases hkd : kidsM N p = []
      · have hD : removeD N who p = 0 := by unfold removeD; rw [hC, if_neg (by decide), if_neg (by rw [hkd]; simp)]
        have hAct : removeA N who p = .del p := by unfold removeA; rw [hD, if_pos rfl]
        have HKD := Lib.hid hkd
        have HN64 := Lib.hid hn64
        have HNC := Lib.hid hnc
        have HCM := Lib.hid (show cap' ≤ 9223372036854775807 from Nat.le_trans hcm (by decide))
        obtain ⟨o2, ho2, hoff⟩ := cut_at5 gE n cap' i
        have HO2 := Lib.hid ho2
        have HOFF := Lib.hid (hoff hnc)
        obtain ⟨P1, hP1⟩ : ∃ P, (N.take i).map ndC = P := ⟨_, rfl⟩
        obtain ⟨P2, hP2⟩ : ∃ P, (N.drop (i + 1)).map ndC = P := ⟨_, rfl⟩
        have HP1 := Lib.hid hP1
        have HP2 := Lib.hid hP2
        have HII := Lib.hid hin
        have HL1 := Lib.hid (show i = P1.length by rw [← hP1, List.length_map, List.length_take]; omega)
        have HL2 := Lib.hid (show n - (i + 1) = P2.length by rw [← hP2, List.length_map, List.length_drop]; omega)
        have HZ1 := Lib.hid (show ∀ p ∈ P1, p.length = 5 by rw [← hP1]; intro p hp; obtain ⟨q, hq, rfl⟩ := List.mem_map.1 hp; rfl)
        have HZ2 := Lib.hid (show ∀ p ∈ P2, p.length = 5 by rw [← hP2]; intro p hp; obtain ⟨q, hq, rfl⟩ := List.mem_map.1 hp; rfl)
        have HY1 := Lib.hid (show ∀ p ∈ P1, ∀ u ∈ p, u.oneCell' = true by rw [← hP1]; intro p hp; obtain ⟨q, hq, rfl⟩ := List.mem_map.1 hp; obtain ⟨l, h1, -⟩ := h.dat q (List.mem_of_mem_take hq); exact ndC_one q h1.oneCell)
        have HY2 := Lib.hid (show ∀ p ∈ P2, ∀ u ∈ p, u.oneCell' = true by rw [← hP2]; intro p hp; obtain ⟨q, hq, rfl⟩ := List.mem_map.1 hp; obtain ⟨l, h1, -⟩ := h.dat q (List.mem_of_mem_drop hq); exact ndC_one q h1.oneCell)
        have HGE := Lib.hid hcE.lt
        have HKC := Lib.hid (show ∀ (k : Nat) (p : List Value), (N.map ndC)[k]? = some p → ∀ (j : Nat) (u : Value), p[j]? = some u → w.cell? ⟨gE, 0 + 5 * k + j, none⟩ = some u from by
          intro k p hk j u hj
          have := rowX_at (by have := h.row; rw [hv] at this; exact this) hk hj
          rwa [Nat.zero_add])
        rw [hD, hAct]
        clear hcc hp hs h hok stay h0 hl h47 hab0 hb hpn hi hix hk hkx hC hv hcE hnc hcz htk hcm hn htop hin hkn hv2 hab hcl hmy hD hAct hkd ho2 hoff hP1 hP2
        go_enter Tryz.func18, Tryz.ntmps18
        go_wp2_with (first
          | (go_at_call 53; refine CC.out.mono ?_; rintro e w1 ⟨rfl, g1⟩; have G1 := Lib.hid g1; clear g1)
          | (go_at_call 54; refine (rat_yes _ rb v N (HT.out.far G1.out (by simp) (by simp) (by simp)) p i HI.out).mono ?_; rintro e w2 ⟨rfl, rfl⟩))
        obtain ⟨wa, hwa⟩ : ∃ x, x = w2 := ⟨_, rfl⟩
        rw [← hwa] at G1 ⊢
        clear hwa
        have HCT := Lib.hid (fun (wx : World) (hx : wa.grownBy wx none) => (HTP.out.kept (grown_trans' G1.out hx)).at_ (i := 0) (v := .slice (some ⟨gE, 0, none⟩) n cap') rfl)
        have HCX := Lib.hid (fun (wx : World) (hx : wa.grownBy wx none) (j : Nat) (u : Value) (hj : (ndC (parOf p, pn))[j]? = some u) => (show wx.cell? ⟨gE, k * 5 + j, none⟩ = some u from by have := HCL.out wx (grown_trans' G1.out hx) j u hj; rwa [Nat.zero_add] at this))
        refine helds_begin (fun W => wa.grownBy W none) (by kernel_rfl) (grown_drew (World.grownBy.refl _ _)) (fun _ => ?_)
        refine helds_take (i := 0) (d := some 23) (v := ?vUF_1) (by assumption) rfl rfl (by kernel_rfl) (fun _ _ _ h => h) ?yUF_1 ?_; case yUF_1 => (refine Or.inl ⟨rfl, fun wx hS => ?_⟩; go_simp; try with_reducible rfl)
        try simp only [Act.put, List.setIfInBounds_toArray, List.set_cons_zero, List.set_cons_succ]
        refine helds_take (i := 1) (d := some 24) (v := ?vUF_2) (by assumption) rfl rfl (by kernel_rfl) (fun _ _ _ h => h) ?yUF_2 ?_; case yUF_2 => (refine Or.inl ⟨rfl, fun wx hS => ?_⟩; go_simp; try with_reducible rfl)
        try simp only [Act.put, List.setIfInBounds_toArray, List.set_cons_zero, List.set_cons_succ]
        refine helds_take (i := 2) (d := some 25) (v := ?vUF_3) (by assumption) rfl rfl (by kernel_rfl) (fun _ _ _ h => h) ?yUF_3 ?_; case yUF_3 => (refine Or.inl ⟨rfl, fun wx hS => ?_⟩; go_simp; try with_reducible rfl)
        try simp only [Act.put, List.setIfInBounds_toArray, List.set_cons_zero, List.set_cons_succ]
        refine helds_take (i := 3) (d := some 26) (v := ?vUF_4) (by assumption) rfl rfl (by kernel_rfl) (fun _ _ _ h => h) ?yUF_4 ?_; case yUF_4 => (refine Or.inl ⟨rfl, fun wx hS => ?_⟩; go_simp; try with_reducible rfl)
        try simp only [Act.put, List.setIfInBounds_toArray, List.set_cons_zero, List.set_cons_succ]
        refine helds_take (i := 4) (d := some 27) (v := ?vUF_5) (by assumption) rfl rfl (by kernel_rfl) (fun _ _ _ h => h) ?yUF_5 ?_; case yUF_5 => (refine Or.inl ⟨rfl, fun wx hS => ?_⟩; have hk := HCT.out wx hS; go_simp; try with_reducible rfl)
        try simp only [Act.put, List.setIfInBounds_toArray, List.set_cons_zero, List.set_cons_succ]
        refine helds_take (i := 5) (d := some 28) (v := ?vUF_6) (by assumption) rfl rfl (by kernel_rfl) (fun _ _ _ h => h) ?yUF_6 ?_; case yUF_6 => (refine Or.inl ⟨rfl, fun wx hS => ?_⟩; go_simp; try with_reducible rfl)
        try simp only [Act.put, List.setIfInBounds_toArray, List.set_cons_zero, List.set_cons_succ]
        refine helds_take (i := 6) (d := some 29) (v := ?vUF_7) (by assumption) rfl rfl (by kernel_rfl) (fun _ _ _ h => h) ?yUF_7 ?_; case yUF_7 => (refine Or.inl ⟨rfl, fun wx hS => ?_⟩; go_simp; try with_reducible rfl)
        try simp only [Act.put, List.setIfInBounds_toArray, List.set_cons_zero, List.set_cons_succ]
        refine helds_one (i := 7) rfl (by kernel_rfl) rfl (fun K hK => ?_)
        refine wp_callU (d := some 30) (f := 55) (args := #[.string ⟨p.toArray⟩]) rfl (by first | rfl | go_simp) ?_
        refine (PR.out _).mono ?_
        rintro e w5 ⟨rfl, rfl⟩
        refine ⟨_, rfl, ?_⟩
        refine hK.out _ _ (by assumption) (fun _ => ?_)
        clear hK K
        try simp only [Act.put, List.setIfInBounds_toArray, List.set_cons_zero, List.set_cons_succ]
        refine helds_one (i := 8) rfl (by kernel_rfl) rfl (fun K hK => ?_)
        refine wp_callU (d := some 31) (f := 54) (args := #[.pointer (some ⟨rb, 0, none⟩), .string ⟨(parOf p).toArray⟩]) rfl (by first | rfl | go_simp) ?_
        refine (rat_yes _ rb v N (HT.out.far (grown_trans' G1.out (by assumption)) (by simp) (by simp) (by simp)) (parOf p) k HK.out).mono ?_
        rintro e w6 ⟨rfl, rfl⟩
        refine ⟨_, rfl, ?_⟩
        refine hK.out _ _ (by assumption) (fun _ => ?_)
        clear hK K
        try simp only [Act.put, List.setIfInBounds_toArray, List.set_cons_zero, List.set_cons_succ]
        refine helds_take (i := 9) (d := some 32) (v := ?vUF_8) (by assumption) rfl rfl (by kernel_rfl) (fun _ _ _ h => h) ?yUF_8 ?_; case yUF_8 => (refine Or.inl ⟨rfl, fun wx hS => ?_⟩; go_simp; try with_reducible rfl)
        try simp only [Act.put, List.setIfInBounds_toArray, List.set_cons_zero, List.set_cons_succ]
        refine helds_take (i := 10) (d := some 33) (v := _) (by assumption) rfl rfl (by kernel_rfl) (fun _ _ _ h => h) (yields_loadX (p := ndC (parOf p, pn)) (b := gE) (off := k * 5) aggNd (.tmp 32) rfl rfl HCX.out rfl (by first | rfl | go_simp)) ?_
        try simp only [Act.put, List.setIfInBounds_toArray, List.set_cons_zero, List.set_cons_succ]
        refine helds_one (i := 11) rfl (by kernel_rfl) rfl (fun K hK => ?_)
        refine wp_callU (d := some 34) (f := 49) (args := #[.string who, .agg (ndC (parOf p, pn)).toArray, .int .i64 2]) rfl (by first | rfl | go_simp) ?_
        refine (rmay_any _ who 2 ⟨(parOf p).toArray⟩ pn.owner pn.dir pn.mode pn.data HPM.out (.inr (.inl rfl))).mono ?_
        rw [HMY.out]
        rintro e w7 ⟨rfl, g7⟩
        refine ⟨_, rfl, ?_⟩
        have hS7 : wa.grownBy w7 none := grown_trans' (by assumption) g7
        have GS := Lib.hid (grown_trans' G1.out hS7)
        clear g7
        refine hK.out _ _ (by assumption) (fun _ => ?_)
        clear hK K
        try simp only [Act.put, List.setIfInBounds_toArray, List.set_cons_zero, List.set_cons_succ]
        refine helds_take (i := 12) (d := some 35) (v := ?vUF_10) (by assumption) rfl rfl (by kernel_rfl) (fun _ _ _ h => h) ?yUF_10 ?_; case yUF_10 => (refine Or.inl ⟨rfl, fun wx hS => ?_⟩; go_simp; try with_reducible rfl)
        try simp only [Act.put, List.setIfInBounds_toArray, List.set_cons_zero, List.set_cons_succ]
        refine held_end (by kernel_rfl) ?_ _
        have q0 := (HTP.out.kept GS.out).at_ (i := 0) (v := .slice (some ⟨gE, 0, none⟩) n cap') rfl
        go_wp2_with (go_at_call 56; refine (NA.out _ (HT.out.far GS.out (by simp) (by simp) (by simp))).mono ?_; rintro e w8 ⟨v8, ss, rfl, hn8, hr8, g8⟩; (have hss : ss = [] := List.Perm.eq_nil (by have := hn8.1; rwa [HKD.out] at this)); subst hss; (obtain ⟨A8, c8, hv8, -, -⟩ := hr8.shape); subst hv8; have G8 := Lib.hid (grown_trans' GS.out g8); clear hn8 hr8 g8)
        clear q0
        obtain ⟨w6, hw6⟩ : ∃ x, x = w8 := ⟨_, rfl⟩
        rw [← hw6] at G8 ⊢
        clear hw6
        have CB6 := Lib.hid (HTP.out.kept G8.out)
        have CBD := Lib.hid (show ∀ x, Below w6.heap.size w6.drew x → CB x rb 46 [.slice (some ⟨gE, 0, none⟩) n cap'] from fun x hx => (show CB w6.drew rb 46 [.slice (some ⟨gE, 0, none⟩) n cap'] from CB6.out).below hx CB6.out.lt)
        have HKD2 := Lib.hid (show ∀ x, Below w6.heap.size w6.drew x → ∀ (k : Nat) (p : List Value), (N.map ndC)[k]? = some p → ∀ (j : Nat) (u : Value), p[j]? = some u → x.cell? ⟨gE, 0 + 5 * k + j, none⟩ = some u from fun x hx k p hk j u hj => (hx.cell (p := ⟨gE, _, none⟩) (Nat.lt_of_lt_of_le HGE.out G8.out.size)).trans (((below_of_none G8.out).cell (p := ⟨gE, _, none⟩) HGE.out).trans (HKC.out k p hk j u hj)))
        refine region_byW (n := 20) (ds := [some 41, some 42, some 43, some 44, some 45, some 46, some 47, some 48, some 49, some 50, some 51, some 52, some 53, some 54, some 55, some 56, some 57, some 58, some 59, none]) (UamT w6.heap.size) (UamF rb gE cap' n i o2 w6.heap.size w6.drew P1 P2) (by kernel_rfl) (by kernel_rfl) rfl (by kernel_rfl) UamF.step (fun j => ⟨fun _ => Below.refl _ _, ?_⟩) ⟨⟨⟨⟨⟨⟨⟨⟨⟨⟨⟨⟨⟨⟨⟨⟨⟨⟨⟨⟨trivial, ?_⟩, ?_⟩, ?_⟩, ?_⟩, ?_⟩, ?_⟩, ?_⟩, ?_⟩, ?_⟩, ?_⟩, ?_⟩, ?_⟩, ?_⟩, ?_⟩, ?_⟩, ?_⟩, ?_⟩, ?_⟩, ?_⟩, ?_⟩ ?_
        · unfold UamV
          split <;> first | trivial | (intro h; cases h)
        · refine Inv.dutyW_plain rfl rfl (fun L vs a x l0 hU dep up val ev out K hK => ?_)
          have e0 : a.eval (.tmp 0) = .pointer (some ⟨rb, 0, none⟩) := (out 0 (Inv.ne_of_outB (by kernel_rfl))).trans rfl
          refine Inv.wp_value (v := .pointer (some ⟨rb, 0, none⟩)) ?_ (hK.out _ _ rfl ⟨fun hq => hU.1 (by rwa [moreT_neW (show (19 : Nat) ≠ 0 by omega)] at hq), fun _ => rfl⟩)
          clear hK K dep up val ev out hU l0
          generalize a.eval = ρ at *
          (simp [execOp, go_sem, *]; done)
        · refine Inv.dutyW_plain rfl rfl (fun L vs a x l0 hU dep up val ev out K hK => ?_)
          have h19 := (show L 19 = false by cases hq : L 19 with | false => rfl | true => (have hz := up 19 1 hq (by kernel_rfl); rw [l0] at hz; cases hz))
          have hb := hU.1 h19
          have hbel : Below w6.heap.size x (x.alloc (.cells #[] 63)) := (Below.refl _ _).alloc hb.size _
          refine Inv.wp_value' (w' := x.alloc (.cells #[] 63)) (v := .slice (some ⟨x.heap.size, 0, none⟩) 0 0) ?_ (hK.out _ _ hbel ⟨fun _ => hb.trans hbel, fun _ _ _ _ => RowX.new0 _ _ _ _ hb.size⟩)
          clear hK K dep up val ev out hU l0
          generalize a.eval = ρ at *
          (simp [execOp, go_sem, *]; done)
        · refine Inv.dutyW_plain rfl rfl (fun L vs a x l0 hU dep up val ev out K hK => ?_)
          have e0 : a.eval (.tmp 0) = .pointer (some ⟨rb, 0, none⟩) := (out 0 (Inv.ne_of_outB (by kernel_rfl))).trans rfl
          refine Inv.wp_value (v := .pointer (some ⟨rb, 0, none⟩)) ?_ (hK.out _ _ rfl ⟨fun hq => hU.1 (by rwa [moreT_neW (show (19 : Nat) ≠ 2 by omega)] at hq), fun _ => rfl⟩)
          clear hK K dep up val ev out hU l0
          generalize a.eval = ρ at *
          (simp [execOp, go_sem, *]; done)
        · refine Inv.dutyW_plain rfl rfl (fun L vs a x l0 hU dep up val ev out K hK => ?_)
          have L43 : L 2 = true := dep 2 (by kernel_rfl)
          have e43 : a.eval (.tmp 43) = .pointer (some ⟨rb, 0, none⟩) := (ev 2 43 L43 (by kernel_rfl)).trans ((val 2 L43).2 L43)
          refine Inv.wp_value (v := .pointer (some ⟨rb, 0, none⟩)) ?_ (hK.out _ _ rfl ⟨fun hq => hU.1 (by rwa [moreT_neW (show (19 : Nat) ≠ 3 by omega)] at hq), fun _ => rfl⟩)
          clear hK K dep up val ev out hU l0
          generalize a.eval = ρ at *
          (simp [execOp, go_sem, *]; done)
        · refine Inv.dutyW_plain rfl rfl (fun L vs a x l0 hU dep up val ev out K hK => ?_)
          have L44 : L 3 = true := dep 3 (by kernel_rfl)
          have e44 : a.eval (.tmp 44) = .pointer (some ⟨rb, 0, none⟩) := (ev 3 44 L44 (by kernel_rfl)).trans ((val 3 L44).2 L44)
          refine Inv.wp_value (v := .pointer (some ⟨rb, 0, none⟩)) ?_ (hK.out _ _ rfl ⟨fun hq => hU.1 (by rwa [moreT_neW (show (19 : Nat) ≠ 4 by omega)] at hq), fun _ => rfl⟩)
          clear hK K dep up val ev out hU l0
          generalize a.eval = ρ at *
          (simp [execOp, go_sem, *]; done)
        · refine Inv.dutyW_plain rfl rfl (fun L vs a x l0 hU dep up val ev out K hK => ?_)
          have L45 : L 4 = true := dep 4 (by kernel_rfl)
          have e45 : a.eval (.tmp 45) = .pointer (some ⟨rb, 0, none⟩) := (ev 4 45 L45 (by kernel_rfl)).trans ((val 4 L45).2 L45)
          refine Inv.wp_value (v := .slice (some ⟨gE, 0, none⟩) n cap') ?_ (hK.out _ _ rfl ⟨fun hq => hU.1 (by rwa [moreT_neW (show (19 : Nat) ≠ 5 by omega)] at hq), fun _ => rfl⟩)
          have q0 := (CBD.out x (hU.1 (show L 19 = false by cases hq : L 19 with | false => rfl | true => (have hz := up 19 5 hq (by kernel_rfl); rw [l0] at hz; cases hz)))).at_ (i := 0) (v := .slice (some ⟨gE, 0, none⟩) n cap') rfl
          clear hK K dep up val ev out hU l0
          generalize a.eval = ρ at *
          (simp [execOp, go_sem, *]; done)
        · refine Inv.dutyW_plain rfl rfl (fun L vs a x l0 hU dep up val ev out K hK => ?_)
          have e8 : a.eval (.tmp 8) = .int .i64 i := (out 8 (Inv.ne_of_outB (by kernel_rfl))).trans rfl
          refine Inv.wp_value (v := .int .i64 i) ?_ (hK.out _ _ rfl ⟨fun hq => hU.1 (by rwa [moreT_neW (show (19 : Nat) ≠ 6 by omega)] at hq), fun _ => rfl⟩)
          clear hK K dep up val ev out hU l0
          generalize a.eval = ρ at *
          (simp [execOp, go_sem, *]; done)
        · refine Inv.dutyW_plain rfl rfl (fun L vs a x l0 hU dep up val ev out K hK => ?_)
          have L46 : L 5 = true := dep 5 (by kernel_rfl)
          have e46 : a.eval (.tmp 46) = .slice (some ⟨gE, 0, none⟩) n cap' := (ev 5 46 L46 (by kernel_rfl)).trans ((val 5 L46).2 L46)
          have L47 : L 6 = true := dep 6 (by kernel_rfl)
          have e47 : a.eval (.tmp 47) = .int .i64 i := (ev 6 47 L47 (by kernel_rfl)).trans ((val 6 L47).2 L47)
          refine Inv.wp_value (v := .slice (some ⟨gE, 0, none⟩) i cap') ?_ (hK.out _ _ rfl ⟨fun hq => hU.1 (by rwa [moreT_neW (show (19 : Nat) ≠ 7 by omega)] at hq), fun _ => rfl⟩)
          clear hK K dep up val ev out hU l0
          generalize a.eval = ρ at *
          have hh1 := HII.out
          have hh2 := HNC.out
          have hh3 := HCM.out
          have hic : ((i : Nat) : Int) ≤ ((cap' : Nat) : Int) := by omega
          have hh4 : i ≤ cap' := by omega
          (simp [execOp, go_sem, *]; done)
        · refine Inv.dutyW_plain rfl rfl (fun L vs a x l0 hU dep up val ev out K hK => ?_)
          have L42 : L 1 = true := dep 1 (by kernel_rfl)
          have e42 := ev 1 42 L42 (by kernel_rfl)
          have f42 := (val 1 L42).2 L42
          have L48 : L 7 = true := dep 7 (by kernel_rfl)
          have e48 : a.eval (.tmp 48) = .slice (some ⟨gE, 0, none⟩) i cap' := (ev 7 48 L48 (by kernel_rfl)).trans ((val 7 L48).2 L48)
          have h19 := (show L 19 = false by cases hq : L 19 with | false => rfl | true => (have hz := up 19 8 hq (by kernel_rfl); rw [l0] at hz; cases hz))
          have h16 : L 16 = false := by cases hq : L 16 with | false => rfl | true => (have hz := up 16 8 hq (by kernel_rfl); rw [l0] at hz; cases hz)
          have hb := hU.1 h19
          have hr := f42 l0 h16 h19
          refine wp_appXs rowNd (.tmp 42) (.tmp 48) rfl (Ps := P1) (b := gE) (off := 0) (c := cap') hr HL1.out ?_ HZ1.out HY1.out e42 e48 (by have h1 := HL1.out; have h2 := HN64.out; have h3 := HII.out; simp; omega) hb.size ?_
          · intro k p hk j u hj
            have hk' : (N.map ndC)[k]? = some p := by
              rw [← HP1.out] at hk
              rw [List.getElem?_map, List.getElem?_take] at hk
              rw [List.getElem?_map]
              by_cases hlt : k < i
              · rw [if_pos hlt] at hk; exact hk
              · rw [if_neg hlt] at hk; cases hk
            exact HKD2.out x hb k p hk' j u hj
          · intro v' y ho hg hat
            have hbel : Below w6.heap.size x y := (Below.refl _ _).grown hg hb.size (fun g hq => (hr.lt g hq).1)
            exact hK.out _ _ hbel ⟨fun _ => hb.trans hbel, fun _ => ⟨by rw [moreT_neW (show (1 : Nat) ≠ 8 by omega)]; exact L42, fun _ _ => by rw [List.nil_append] at ho; exact ho⟩⟩
        · refine Inv.dutyW_plain rfl rfl (fun L vs a x l0 hU dep up val ev out K hK => ?_)
          have e0 : a.eval (.tmp 0) = .pointer (some ⟨rb, 0, none⟩) := (out 0 (Inv.ne_of_outB (by kernel_rfl))).trans rfl
          refine Inv.wp_value (v := .pointer (some ⟨rb, 0, none⟩)) ?_ (hK.out _ _ rfl ⟨fun hq => hU.1 (by rwa [moreT_neW (show (19 : Nat) ≠ 9 by omega)] at hq), fun _ => rfl⟩)
          clear hK K dep up val ev out hU l0
          generalize a.eval = ρ at *
          (simp [execOp, go_sem, *]; done)
        · refine Inv.dutyW_plain rfl rfl (fun L vs a x l0 hU dep up val ev out K hK => ?_)
          have L50 : L 9 = true := dep 9 (by kernel_rfl)
          have e50 : a.eval (.tmp 50) = .pointer (some ⟨rb, 0, none⟩) := (ev 9 50 L50 (by kernel_rfl)).trans ((val 9 L50).2 L50)
          refine Inv.wp_value (v := .pointer (some ⟨rb, 0, none⟩)) ?_ (hK.out _ _ rfl ⟨fun hq => hU.1 (by rwa [moreT_neW (show (19 : Nat) ≠ 10 by omega)] at hq), fun _ => rfl⟩)
          clear hK K dep up val ev out hU l0
          generalize a.eval = ρ at *
          (simp [execOp, go_sem, *]; done)
        · refine Inv.dutyW_plain rfl rfl (fun L vs a x l0 hU dep up val ev out K hK => ?_)
          have L51 : L 10 = true := dep 10 (by kernel_rfl)
          have e51 : a.eval (.tmp 51) = .pointer (some ⟨rb, 0, none⟩) := (ev 10 51 L51 (by kernel_rfl)).trans ((val 10 L51).2 L51)
          refine Inv.wp_value (v := .pointer (some ⟨rb, 0, none⟩)) ?_ (hK.out _ _ rfl ⟨fun hq => hU.1 (by rwa [moreT_neW (show (19 : Nat) ≠ 11 by omega)] at hq), fun _ => rfl⟩)
          clear hK K dep up val ev out hU l0
          generalize a.eval = ρ at *
          (simp [execOp, go_sem, *]; done)
        · refine Inv.dutyW_plain rfl rfl (fun L vs a x l0 hU dep up val ev out K hK => ?_)
          have L52 : L 11 = true := dep 11 (by kernel_rfl)
          have e52 : a.eval (.tmp 52) = .pointer (some ⟨rb, 0, none⟩) := (ev 11 52 L52 (by kernel_rfl)).trans ((val 11 L52).2 L52)
          refine Inv.wp_value (v := .slice (some ⟨gE, 0, none⟩) n cap') ?_ (hK.out _ _ rfl ⟨fun hq => hU.1 (by rwa [moreT_neW (show (19 : Nat) ≠ 12 by omega)] at hq), fun _ => rfl⟩)
          have q0 := (CBD.out x (hU.1 (show L 19 = false by cases hq : L 19 with | false => rfl | true => (have hz := up 19 12 hq (by kernel_rfl); rw [l0] at hz; cases hz)))).at_ (i := 0) (v := .slice (some ⟨gE, 0, none⟩) n cap') rfl
          clear hK K dep up val ev out hU l0
          generalize a.eval = ρ at *
          (simp [execOp, go_sem, *]; done)
        · refine Inv.dutyW_plain rfl rfl (fun L vs a x l0 hU dep up val ev out K hK => ?_)
          have e8 : a.eval (.tmp 8) = .int .i64 i := (out 8 (Inv.ne_of_outB (by kernel_rfl))).trans rfl
          refine Inv.wp_value (v := .int .i64 i) ?_ (hK.out _ _ rfl ⟨fun hq => hU.1 (by rwa [moreT_neW (show (19 : Nat) ≠ 13 by omega)] at hq), fun _ => rfl⟩)
          clear hK K dep up val ev out hU l0
          generalize a.eval = ρ at *
          (simp [execOp, go_sem, *]; done)
        · refine Inv.dutyW_plain rfl rfl (fun L vs a x l0 hU dep up val ev out K hK => ?_)
          have ek : ∀ u, a.eval (.const u) = u := fun _ => rfl
          have L54 : L 13 = true := dep 13 (by kernel_rfl)
          have e54 : a.eval (.tmp 54) = .int .i64 i := (ev 13 54 L54 (by kernel_rfl)).trans ((val 13 L54).2 L54)
          refine Inv.wp_value (v := .int .i64 ((i + 1 : Nat) : Int)) ?_ (hK.out _ _ rfl ⟨fun hq => hU.1 (by rwa [moreT_neW (show (19 : Nat) ≠ 14 by omega)] at hq), fun _ => rfl⟩)
          clear hK K dep up val ev out hU l0
          generalize a.eval = ρ at *
          have hh1 := HII.out
          have hh2 := HN64.out
          have hwr : IntKind.i64.wrap ((i : Int) + 1) = ((i + 1 : Nat) : Int) := by rw [wrap_small _ (by omega) (by omega)]; omega
          (simp [execOp, go_sem, *]; done)
        · refine Inv.dutyW_plain rfl rfl (fun L vs a x l0 hU dep up val ev out K hK => ?_)
          have L53 : L 12 = true := dep 12 (by kernel_rfl)
          have e53 : a.eval (.tmp 53) = .slice (some ⟨gE, 0, none⟩) n cap' := (ev 12 53 L53 (by kernel_rfl)).trans ((val 12 L53).2 L53)
          have L55 : L 14 = true := dep 14 (by kernel_rfl)
          have e55 : a.eval (.tmp 55) = .int .i64 ((i + 1 : Nat) : Int) := (ev 14 55 L55 (by kernel_rfl)).trans ((val 14 L55).2 L55)
          refine Inv.wp_value (v := .slice (some ⟨gE, o2, none⟩) (n - (i + 1)) (cap' - (i + 1))) ?_ (hK.out _ _ rfl ⟨fun hq => hU.1 (by rwa [moreT_neW (show (19 : Nat) ≠ 15 by omega)] at hq), fun _ => rfl⟩)
          clear hK K dep up val ev out hU l0
          generalize a.eval = ρ at *
          have hh1 := HII.out
          have hh2 := HNC.out
          have hh3 := HCM.out
          have hh5 := HO2.out
          have hic : ((i + 1 : Nat) : Int) ≤ ((n : Nat) : Int) := by omega
          have hih : ((n : Nat) : Int) ≤ ((cap' : Nat) : Int) := by omega
          have hj0 : (0 : Int) ≤ (i : Int) + 1 := by omega
          have hj1 : (i : Int) + 1 ≤ (n : Int) := by omega
          (simp [execOp, go_sem, *]; done)
        · refine Inv.dutyW_plain rfl rfl (fun L vs a x l0 hU dep up val ev out K hK => ?_)
          have L49 : L 8 = true := dep 8 (by kernel_rfl)
          have e49 := ev 8 49 L49 (by kernel_rfl)
          have f49 := (val 8 L49).2 L49
          have L56 : L 15 = true := dep 15 (by kernel_rfl)
          have e56 : a.eval (.tmp 56) = .slice (some ⟨gE, o2, none⟩) (n - (i + 1)) (cap' - (i + 1)) := (ev 15 56 L56 (by kernel_rfl)).trans ((val 15 L56).2 L56)
          have h19 := (show L 19 = false by cases hq : L 19 with | false => rfl | true => (have hz := up 19 16 hq (by kernel_rfl); rw [l0] at hz; cases hz))
          have hb := hU.1 h19
          obtain ⟨l1, hr0⟩ := f49
          have hr := hr0 l0 h19
          refine wp_appXs rowNd (.tmp 49) (.tmp 56) rfl (Ps := P2) (b := gE) (off := o2) (c := cap' - (i + 1)) hr HL2.out ?_ HZ2.out HY2.out e49 e56 (by have h1 := HL1.out; have h4 := HL2.out; have h2 := HN64.out; have h3 := HII.out; omega) hb.size ?_
          · intro k p hk j u hj
            have hkl : k < P2.length := (List.getElem?_eq_some_iff.1 hk).1
            have ho := HOFF.out (by have := HL2.out; omega)
            have hk' : (N.map ndC)[k + (i + 1)]? = some p := by
              rw [← HP2.out] at hk
              rw [List.getElem?_map, List.getElem?_drop] at hk
              rw [List.getElem?_map, Nat.add_comm]
              exact hk
            have h9 := HKD2.out x hb (k + (i + 1)) p hk' j u hj
            rw [ho]
            rwa [show 0 + 5 * (k + (i + 1)) + j = (i + 1) * 5 + 5 * k + j by omega] at h9
          · intro v' y ho hg hat
            have hbel : Below w6.heap.size x y := (Below.refl _ _).grown hg hb.size (fun g hq => (hr.lt g hq).1)
            exact hK.out _ _ hbel ⟨fun _ => hb.trans hbel, fun _ => ⟨by rw [moreT_neW (show (1 : Nat) ≠ 16 by omega)]; exact l1, by rw [moreT_neW (show (8 : Nat) ≠ 16 by omega)]; exact L49, fun _ => ho⟩⟩
        · refine Inv.dutyW_plain rfl rfl (fun L vs a x l0 hU dep up val ev out K hK => ?_)
          have L41 : L 0 = true := dep 0 (by kernel_rfl)
          have e41 : a.eval (.tmp 41) = .pointer (some ⟨rb, 0, none⟩) := (ev 0 41 L41 (by kernel_rfl)).trans ((val 0 L41).2 L41)
          refine Inv.wp_value (v := .pointer (some ⟨rb, 0, none⟩)) ?_ (hK.out _ _ rfl ⟨fun hq => hU.1 (by rwa [moreT_neW (show (19 : Nat) ≠ 17 by omega)] at hq), fun _ => rfl⟩)
          clear hK K dep up val ev out hU l0
          generalize a.eval = ρ at *
          (simp [execOp, go_sem, *]; done)
        · refine Inv.dutyW_plain rfl rfl (fun L vs a x l0 hU dep up val ev out K hK => ?_)
          have L58 : L 17 = true := dep 17 (by kernel_rfl)
          have e58 : a.eval (.tmp 58) = .pointer (some ⟨rb, 0, none⟩) := (ev 17 58 L58 (by kernel_rfl)).trans ((val 17 L58).2 L58)
          refine Inv.wp_value (v := .pointer (some ⟨rb, 0, none⟩)) ?_ (hK.out _ _ rfl ⟨fun hq => hU.1 (by rwa [moreT_neW (show (19 : Nat) ≠ 18 by omega)] at hq), fun _ => rfl⟩)
          clear hK K dep up val ev out hU l0
          generalize a.eval = ρ at *
          (simp [execOp, go_sem, *]; done)
        · refine Inv.dutyW_plain rfl rfl (fun L vs a x l0 hU dep up val ev out K hK => ?_)
          have L57 : L 16 = true := dep 16 (by kernel_rfl)
          have e57 := ev 16 57 L57 (by kernel_rfl)
          have f57 := (val 16 L57).2 L57
          have L59 : L 18 = true := dep 18 (by kernel_rfl)
          have e59 : a.eval (.tmp 59) = .pointer (some ⟨rb, 0, none⟩) := (ev 18 59 L59 (by kernel_rfl)).trans ((val 18 L59).2 L59)
          have hb := hU.1 l0
          obtain ⟨_, _, hr0⟩ := f57
          have hr := hr0 l0
          have hall : ∀ j, j < 19 → L j = true := by
            intro j hj
            rcases (show j = 0 ∨ j = 1 ∨ j = 2 ∨ j = 3 ∨ j = 4 ∨ j = 5 ∨ j = 6 ∨ j = 7 ∨ j = 8 ∨ j = 9 ∨ j = 10 ∨ j = 11 ∨ j = 12 ∨ j = 13 ∨ j = 14 ∨ j = 15 ∨ j = 16 ∨ j = 17 ∨ j = 18 by omega) with rfl | rfl | rfl | rfl | rfl | rfl | rfl | rfl | rfl | rfl | rfl | rfl | rfl | rfl | rfl | rfl | rfl | rfl | rfl
            · exact dep 0 (by kernel_rfl)
            · exact dep 1 (by kernel_rfl)
            · exact dep 2 (by kernel_rfl)
            · exact dep 3 (by kernel_rfl)
            · exact dep 4 (by kernel_rfl)
            · exact dep 5 (by kernel_rfl)
            · exact dep 6 (by kernel_rfl)
            · exact dep 7 (by kernel_rfl)
            · exact dep 8 (by kernel_rfl)
            · exact dep 9 (by kernel_rfl)
            · exact dep 10 (by kernel_rfl)
            · exact dep 11 (by kernel_rfl)
            · exact dep 12 (by kernel_rfl)
            · exact dep 13 (by kernel_rfl)
            · exact dep 14 (by kernel_rfl)
            · exact dep 15 (by kernel_rfl)
            · exact dep 16 (by kernel_rfl)
            · exact up 18 17 (dep 18 (by kernel_rfl)) (by kernel_rfl)
            · exact dep 18 (by kernel_rfl)
          obtain ⟨Ao, co, hvo, -, -⟩ := hr.shape
          refine wp_storeC (d := none) (off := 0) (p := [.slice Ao (P1 ++ P2).length co]) (n := 1) szNd rfl (.tmp 59) (.tmp 57) rfl (.slice Ao (P1 ++ P2).length co) rfl (by intro u hu; rw [List.mem_singleton.1 hu]; rfl) (CBD.out x hb) rfl (by simp) e59 (e57.trans hvo) ?_
          intro y hc' hg'
          rw [over_allT _ _ (by simp)] at hc'
          refine hK.out _ _ trivial ⟨fun hq => (by rw [moreT_atW] at hq; cases hq), fun _ => ⟨fun j hj => by rw [moreT_neW (i := 19) (j := j) (by omega)]; exact hall j hj, (grown_trans' (grown_some (none_of_below hb (Nat.le_refl _)) rb) hg'), _, hc', ?_⟩⟩
          have hr' := hr.row hg' (hr.ne_cells (CBD.out x hb) (by decide))
          rw [hvo] at hr'
          exact hr'
        · intro vs L w' hL hf
          obtain ⟨-, h19⟩ := hf 19 (by omega)
          obtain ⟨-, hg, v9, hc9, hr9⟩ := h19 (hL 19 (by omega))
          simp only [Inv.putAll, Act.put, List.setIfInBounds_toArray, List.set_cons_zero, List.set_cons_succ, Nat.zero_add, Nat.reduceAdd]
          have HG := Lib.hid (grown_undrew hg)
          have HC9 := Lib.hid hc9
          have HR9 := Lib.hid hr9
          clear hf h19 hg hc9 hr9 hL
          go_wp2
          go_ret
          have hcut : withoutM N p = N.take i ++ N.drop (i + 1) := HT.out.up.cut HI.out
          have hkeep : ∀ dv l, OwnB w 0 5 dv l → OwnB w' 0 5 dv l := fun dv l ho => World.ownsRow.kept (ho.below (below_of_none G8.out)) HG.out (.inr ((ho.below (below_of_none G8.out)).ne_cells CB6.out (by decide)))
          refine ⟨rfl, RDone.back G8.out ⟨v9, withoutM N p, ⟨HC9.out, ?_, fun x hx => ?_, fun x hx => ?_, HT.out.up.filter _, ?_⟩, rfl, .inr (.inl HG.out), .inr (fun g hg => (HR9.out.lt g hg).1)⟩⟩
          · rw [hcut, List.map_append, HP1.out, HP2.out]
            exact HR9.out.base_ (Nat.zero_le _)
          · obtain ⟨l, h1, h2⟩ := HT.out.dat x (mem_without (show (x.1, x.2) ∈ _ from hx)).1
            exact ⟨l, hkeep _ _ h1, h2⟩
          · exact HT.out.mode x (mem_without (show (x.1, x.2) ∈ _ from hx)).1
          · exact Nat.le_trans (List.length_filter_le _ _) HT.out.len
      · have hD : removeD N who p = 115 := by unfold removeD; rw [hC, if_neg (by decide), if_pos hkd]
        have hAct : removeA N who p = .stay := by unfold removeA; rw [hD, if_neg (by decide)]
        have HKD := Lib.hid hkd
        rw [hD, hAct]
        clear hcc hp hs h hok stay h0 hl h47 hab0 hb hpn hi hix hk hkx hC hv hcE hnc hcz htk hcm hn htop hin hkn hv2 hab hcl hmy hD hAct hkd
        go_enter Tryz.func18, Tryz.ntmps18
        go_wp2_with (first
          | (go_at_call 53; refine CC.out.mono ?_; rintro e w1 ⟨rfl, g1⟩; have G1 := Lib.hid g1; clear g1)
          | (go_at_call 54; refine (rat_yes _ rb v N (HT.out.far G1.out (by simp) (by simp) (by simp)) p i HI.out).mono ?_; rintro e w2 ⟨rfl, rfl⟩))
        obtain ⟨wa, hwa⟩ : ∃ x, x = w2 := ⟨_, rfl⟩
        rw [← hwa] at G1 ⊢
        clear hwa
        have HCT := Lib.hid (fun (wx : World) (hx : wa.grownBy wx none) => (HTP.out.kept (grown_trans' G1.out hx)).at_ (i := 0) (v := .slice (some ⟨gE, 0, none⟩) n cap') rfl)
        have HCX := Lib.hid (fun (wx : World) (hx : wa.grownBy wx none) (j : Nat) (u : Value) (hj : (ndC (parOf p, pn))[j]? = some u) => (show wx.cell? ⟨gE, k * 5 + j, none⟩ = some u from by have := HCL.out wx (grown_trans' G1.out hx) j u hj; rwa [Nat.zero_add] at this))
        refine helds_begin (fun W => wa.grownBy W none) (by kernel_rfl) (grown_drew (World.grownBy.refl _ _)) (fun _ => ?_)
        refine helds_take (i := 0) (d := some 23) (v := ?vUG_1) (by assumption) rfl rfl (by kernel_rfl) (fun _ _ _ h => h) ?yUG_1 ?_; case yUG_1 => (refine Or.inl ⟨rfl, fun wx hS => ?_⟩; go_simp; try with_reducible rfl)
        try simp only [Act.put, List.setIfInBounds_toArray, List.set_cons_zero, List.set_cons_succ]
        refine helds_take (i := 1) (d := some 24) (v := ?vUG_2) (by assumption) rfl rfl (by kernel_rfl) (fun _ _ _ h => h) ?yUG_2 ?_; case yUG_2 => (refine Or.inl ⟨rfl, fun wx hS => ?_⟩; go_simp; try with_reducible rfl)
        try simp only [Act.put, List.setIfInBounds_toArray, List.set_cons_zero, List.set_cons_succ]
        refine helds_take (i := 2) (d := some 25) (v := ?vUG_3) (by assumption) rfl rfl (by kernel_rfl) (fun _ _ _ h => h) ?yUG_3 ?_; case yUG_3 => (refine Or.inl ⟨rfl, fun wx hS => ?_⟩; go_simp; try with_reducible rfl)
        try simp only [Act.put, List.setIfInBounds_toArray, List.set_cons_zero, List.set_cons_succ]
        refine helds_take (i := 3) (d := some 26) (v := ?vUG_4) (by assumption) rfl rfl (by kernel_rfl) (fun _ _ _ h => h) ?yUG_4 ?_; case yUG_4 => (refine Or.inl ⟨rfl, fun wx hS => ?_⟩; go_simp; try with_reducible rfl)
        try simp only [Act.put, List.setIfInBounds_toArray, List.set_cons_zero, List.set_cons_succ]
        refine helds_take (i := 4) (d := some 27) (v := ?vUG_5) (by assumption) rfl rfl (by kernel_rfl) (fun _ _ _ h => h) ?yUG_5 ?_; case yUG_5 => (refine Or.inl ⟨rfl, fun wx hS => ?_⟩; have hk := HCT.out wx hS; go_simp; try with_reducible rfl)
        try simp only [Act.put, List.setIfInBounds_toArray, List.set_cons_zero, List.set_cons_succ]
        refine helds_take (i := 5) (d := some 28) (v := ?vUG_6) (by assumption) rfl rfl (by kernel_rfl) (fun _ _ _ h => h) ?yUG_6 ?_; case yUG_6 => (refine Or.inl ⟨rfl, fun wx hS => ?_⟩; go_simp; try with_reducible rfl)
        try simp only [Act.put, List.setIfInBounds_toArray, List.set_cons_zero, List.set_cons_succ]
        refine helds_take (i := 6) (d := some 29) (v := ?vUG_7) (by assumption) rfl rfl (by kernel_rfl) (fun _ _ _ h => h) ?yUG_7 ?_; case yUG_7 => (refine Or.inl ⟨rfl, fun wx hS => ?_⟩; go_simp; try with_reducible rfl)
        try simp only [Act.put, List.setIfInBounds_toArray, List.set_cons_zero, List.set_cons_succ]
        refine helds_one (i := 7) rfl (by kernel_rfl) rfl (fun K hK => ?_)
        refine wp_callU (d := some 30) (f := 55) (args := #[.string ⟨p.toArray⟩]) rfl (by first | rfl | go_simp) ?_
        refine (PR.out _).mono ?_
        rintro e w5 ⟨rfl, rfl⟩
        refine ⟨_, rfl, ?_⟩
        refine hK.out _ _ (by assumption) (fun _ => ?_)
        clear hK K
        try simp only [Act.put, List.setIfInBounds_toArray, List.set_cons_zero, List.set_cons_succ]
        refine helds_one (i := 8) rfl (by kernel_rfl) rfl (fun K hK => ?_)
        refine wp_callU (d := some 31) (f := 54) (args := #[.pointer (some ⟨rb, 0, none⟩), .string ⟨(parOf p).toArray⟩]) rfl (by first | rfl | go_simp) ?_
        refine (rat_yes _ rb v N (HT.out.far (grown_trans' G1.out (by assumption)) (by simp) (by simp) (by simp)) (parOf p) k HK.out).mono ?_
        rintro e w6 ⟨rfl, rfl⟩
        refine ⟨_, rfl, ?_⟩
        refine hK.out _ _ (by assumption) (fun _ => ?_)
        clear hK K
        try simp only [Act.put, List.setIfInBounds_toArray, List.set_cons_zero, List.set_cons_succ]
        refine helds_take (i := 9) (d := some 32) (v := ?vUG_8) (by assumption) rfl rfl (by kernel_rfl) (fun _ _ _ h => h) ?yUG_8 ?_; case yUG_8 => (refine Or.inl ⟨rfl, fun wx hS => ?_⟩; go_simp; try with_reducible rfl)
        try simp only [Act.put, List.setIfInBounds_toArray, List.set_cons_zero, List.set_cons_succ]
        refine helds_take (i := 10) (d := some 33) (v := _) (by assumption) rfl rfl (by kernel_rfl) (fun _ _ _ h => h) (yields_loadX (p := ndC (parOf p, pn)) (b := gE) (off := k * 5) aggNd (.tmp 32) rfl rfl HCX.out rfl (by first | rfl | go_simp)) ?_
        try simp only [Act.put, List.setIfInBounds_toArray, List.set_cons_zero, List.set_cons_succ]
        refine helds_one (i := 11) rfl (by kernel_rfl) rfl (fun K hK => ?_)
        refine wp_callU (d := some 34) (f := 49) (args := #[.string who, .agg (ndC (parOf p, pn)).toArray, .int .i64 2]) rfl (by first | rfl | go_simp) ?_
        refine (rmay_any _ who 2 ⟨(parOf p).toArray⟩ pn.owner pn.dir pn.mode pn.data HPM.out (.inr (.inl rfl))).mono ?_
        rw [HMY.out]
        rintro e w7 ⟨rfl, g7⟩
        refine ⟨_, rfl, ?_⟩
        have hS7 : wa.grownBy w7 none := grown_trans' (by assumption) g7
        have GS := Lib.hid (grown_trans' G1.out hS7)
        clear g7
        refine hK.out _ _ (by assumption) (fun _ => ?_)
        clear hK K
        try simp only [Act.put, List.setIfInBounds_toArray, List.set_cons_zero, List.set_cons_succ]
        refine helds_take (i := 12) (d := some 35) (v := ?vUG_10) (by assumption) rfl rfl (by kernel_rfl) (fun _ _ _ h => h) ?yUG_10 ?_; case yUG_10 => (refine Or.inl ⟨rfl, fun wx hS => ?_⟩; go_simp; try with_reducible rfl)
        try simp only [Act.put, List.setIfInBounds_toArray, List.set_cons_zero, List.set_cons_succ]
        refine held_end (by kernel_rfl) ?_ _
        have q0 := (HTP.out.kept GS.out).at_ (i := 0) (v := .slice (some ⟨gE, 0, none⟩) n cap') rfl
        go_wp2_with (go_at_call 56; refine (NA.out _ (HT.out.far GS.out (by simp) (by simp) (by simp))).mono ?_; rintro e w8 ⟨v8, ss, rfl, hn8, hr8, g8⟩; (obtain ⟨sl, hsl⟩ : ∃ sl, ss.length = sl := ⟨_, rfl⟩); (have hsp : (0 : Int) < (sl : Int) := by (have h1 : sl ≠ 0 := fun e => HKD.out (List.Perm.nil_eq (by have h2 := hn8.1; rw [List.eq_nil_of_length_eq_zero (hsl.trans e)] at h2; exact h2)).symm); omega); (obtain ⟨A8, c8, hv8, -, -⟩ := hr8.shape); rw [List.length_map, hsl] at hv8; subst hv8; have G8 := Lib.hid (grown_trans' GS.out g8); clear hn8 hr8 g8 hsl)
        go_ret
        exact ⟨rfl, RDone.stay HT.out G8.out⟩
end Go.Proofs.YtjonnamemmleiaaGreatDoor
