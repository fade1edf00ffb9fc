/- The walks of a Mux's Take and of the control frames that come. -/
import Derived.Test.YtajfaplaaafjiaaMxh
namespace Go.Proofs.Ytajfaplaaafjiaa
open Go.RowKit

def ctlM (C : Nat → Ch) (b : List UInt8) : Int × (Nat → Ch) :=
  if b.length ≠ 4 then (21, C) else
  if 4 ≤ (b.getD 1 0).toNat then (21, C) else
  if (b.getD 0 0).toNat = 1 then
    (if 1024 < (C (b.getD 1 0).toNat).credit + ((b.getD 2 0).toNat * 256 + (b.getD 3 0).toNat) then 101 else 0,
      upd C (b.getD 1 0).toNat (if 1024 < (C (b.getD 1 0).toNat).credit + ((b.getD 2 0).toNat * 256 + (b.getD 3 0).toNat) then C (b.getD 1 0).toNat else chMore (C (b.getD 1 0).toNat) ((b.getD 2 0).toNat * 256 + (b.getD 3 0).toNat))) else
  if (b.getD 0 0).toNat = 2 ∧ (b.getD 2 0).toNat * 256 + (b.getD 3 0).toNat = 0 then (if (C (b.getD 1 0).toNat).ended then 102 else 0, upd C (b.getD 1 0).toNat (chEnd (C (b.getD 1 0).toNat))) else (21, C)
def muT (C : Nat → Ch) (f : Int × List UInt8) : Int × (Nat → Ch) :=
  if f.1 = 4 then ctlM C f.2 else
  if badC f.1 then (100, C) else
  (takeE (C f.1.toNat) f.2.length, upd C f.1.toNat (if takeE (C f.1.toNat) f.2.length = 0 then chTake (C f.1.toNat) f.2 else C f.1.toNat))

theorem mside_dr (w : World) (m : Nat) (i : Int) (hi : I64 i) :
    Calls Try.prog 45 #[.pointer (some ⟨m, 0, none⟩), .int .i64 i] w fun e w' => e = .returned (.pointer (if i < 0 ∨ 4 ≤ i then none else some ⟨m, 8 * i.toNat, none⟩)) ∧ Dr w w' := by
  refine (mside_any w m i hi).mono ?_
  rintro e w' ⟨h1, rfl⟩
  exact ⟨h1, Dr.refl _⟩

set_option maxRecDepth 100000 in
set_option maxHeartbeats 4000000 in
theorem mctl_any (w : World) (base m : Nat) (us vs : Nat → Value) (C : Nat → Ch) (h : MX w base m us vs C) (hlim : ∀ i, i < 4 → (C i).credit ≤ 1024) (A : Option Addr) (l : List UInt8) (n cap : Nat) (hn : l.length = n) (hr : RB w w.heap.size A l cap) (hnl : n ≤ 1000000) :
    Calls Try.prog 54 #[.pointer (some ⟨m, 0, none⟩), .slice A n cap] w fun e w' => e = .returned (.int .i64 (ctlM C l).1) ∧ ∃ us' vs', MX w' base m us' vs' (ctlM C l).2 ∧ MG w w' m us vs us' vs' := by
  have H := Lib.hid h
  by_cases h4 : n = 4
  case neg =>
    have hm : ctlM C l = (21, C) := by unfold ctlM; rw [if_pos (by rw [hn]; exact h4)]
    rw [hm]
    have h4i : ¬ (n : Int) = 4 := by omega
    clear h hm hr hn hlim
    go_enter Try.func54, Try.ntmps54
    go_wp2
    go_ret
    exact ⟨rfl, _, _, H.out, MG.refl _ _ _ _⟩
  subst h4
  obtain ⟨b, off, rfl, hb, hc⟩ := hr.open_ (by omega)
  obtain ⟨y0, y1, y2, y3, rfl⟩ : ∃ y0 y1 y2 y3, l = [y0, y1, y2, y3] := by
    match l, hn with
    | [a, b, c, d], _ => exact ⟨a, b, c, d, rfl⟩
  have k0 := hc 0 (by simp)
  have k1 := hc 1 (by simp)
  have k2 := hc 2 (by simp)
  have k3 := hc 3 (by simp)
  simp only [Nat.add_zero, List.getElem_cons_zero, List.getElem_cons_succ] at k0 k1 k2 k3
  have hx0 := y0.toNat_lt
  have hx1 := y1.toNat_lt
  have hx2 := y2.toNat_lt
  have hx3 := y3.toNat_lt
  have hcap := hr.1
  have ho := or_byte ((y2.toNat : Int) * 256) (y3.toNat : Int) (by omega) (by omega) (by omega) (by omega) (by omega)
  obtain ⟨z, hz⟩ : ∃ z, y2.toNat * 256 + y3.toNat = z := ⟨_, rfl⟩
  have hzi : (y2.toNat : Int) * 256 + (y3.toNat : Int) = (z : Int) := by omega
  rw [hzi] at ho
  have S := Lib.hid (fun q => mside_dr (w.drewN q) m (y1.toNat : Int) ⟨by omega, by omega⟩)
  have hd : ctlM C [y0, y1, y2, y3] = (if 4 ≤ y1.toNat then (21, C) else if y0.toNat = 1 then (if 1024 < (C y1.toNat).credit + z then 101 else 0, upd C y1.toNat (if 1024 < (C y1.toNat).credit + z then C y1.toNat else chMore (C y1.toNat) z)) else
      if y0.toNat = 2 ∧ z = 0 then (if (C y1.toNat).ended then 102 else 0, upd C y1.toNat (chEnd (C y1.toNat))) else (21, C)) := by
    rw [← hz]
    unfold ctlM
    rw [if_neg (by simp)]
    rfl
  rw [hd]
  have hzl : z ≤ 65535 := by omega
  clear hd hr hn hc hb hzi hz
  generalize y0.toNat = x0 at *
  generalize y1.toNat = x1 at *
  generalize y2.toNat = x2 at *
  generalize y3.toNat = x3 at *
  by_cases h1 : 4 ≤ x1
  · rw [if_pos h1]
    have h1i : (x1 : Int) < 0 ∨ 4 ≤ (x1 : Int) := by omega
    simp only [if_pos h1i] at S
    clear h hlim h1i
    go_enter Try.func54, Try.ntmps54
    go_wp2
    go_quiet ((go_at_call 45; with_reducible exact Calls.quiet_of (S.out _)))
    go_wp2
    go_ret
    exact ⟨rfl, _, _, H.out.made ⟨rfl, rfl, rfl, Nat.le_refl _, fun _ _ _ => rfl⟩, MG.of_made _ _ _ ⟨rfl, rfl, rfl, Nat.le_refl _, fun _ _ _ => rfl⟩⟩
  · rw [if_neg h1]
    have hi4 : x1 < 4 := by omega
    have h1i : ¬ ((x1 : Int) < 0 ∨ 4 ≤ (x1 : Int)) := by omega
    simp only [if_neg h1i, Int.toNat_natCast] at S
    have HQ := Lib.hid (fun q => h.made (w' := w.drewN q) ⟨rfl, rfl, rfl, Nat.le_refl _, fun _ _ _ => rfl⟩)
    by_cases h2 : x0 = 1
    · rw [if_pos h2]
      have SW := Lib.hid (fun q => mmore_any (w.drewN q) base m (8 * x1) _ _ _ _ z (by omega) (hlim x1 hi4) ((HQ.out q).side hi4))
      have h2i : (x0 : Int) = 1 := by omega
      clear h hlim h1 h2
      generalize (if 1024 < (C x1).credit + z then C x1 else chMore (C x1) z) = cc at *
      generalize (if 1024 < (C x1).credit + z then (101 : Int) else 0) = we at *
      go_enter Try.func54, Try.ntmps54
      go_wp2
      go_quiet ((go_at_call 45; with_reducible exact Calls.quiet_of (S.out _)))
      go_wp2_with (go_at_call 59; refine (SW.out _).mono ?_; rintro e w1 ⟨rfl, k1, k3⟩; have K := Lib.hid ((HQ.out nq).step hi4 k1 (sdM k3) (.inl rfl) (.inl rfl)); clear k1 k3)
      go_ret
      exact ⟨rfl, _, _, K.out.1, (MG.of_made (w := w) (w' := w.drewN nq) m us vs ⟨rfl, rfl, rfl, Nat.le_refl _, fun _ _ _ => rfl⟩).trans K.out.2⟩
    · rw [if_neg h2]
      have h2i : ¬ (x0 : Int) = 1 := by omega
      by_cases h3 : x0 = 2
      · have h3i : (x0 : Int) = 2 := by omega
        by_cases h5 : z = 0
        · have h5i : (z : Int) = 0 := by omega
          rw [if_pos ⟨h3, h5⟩]
          have SW := Lib.hid (fun q => mend_any (w.drewN q) base m (8 * x1) _ _ _ _ ((HQ.out q).side hi4))
          clear h hlim h1 h2 h3 h5
          generalize (if (C x1).ended = true then (102 : Int) else 0) = we at *
          go_enter Try.func54, Try.ntmps54
          go_wp2
          go_quiet ((go_at_call 45; with_reducible exact Calls.quiet_of (S.out _)))
          go_wp2_with (go_at_call 60; refine (SW.out _).mono ?_; rintro e w1 ⟨rfl, k1, k3⟩; have K := Lib.hid ((HQ.out nq).step hi4 k1 (sdM k3) (.inl rfl) (.inl rfl)); clear k1 k3)
          go_ret
          exact ⟨rfl, _, _, K.out.1, (MG.of_made (w := w) (w' := w.drewN nq) m us vs ⟨rfl, rfl, rfl, Nat.le_refl _, fun _ _ _ => rfl⟩).trans K.out.2⟩
        · have h5i : ¬ (z : Int) = 0 := by omega
          have h5b : ((z : Int) == 0) = false := beq_eq_false_iff_ne.2 h5i
          rw [if_neg (fun e => h5 e.2)]
          clear h hlim h1 h2 h3 h5
          go_enter Try.func54, Try.ntmps54
          go_wp2
          go_quiet ((go_at_call 45; with_reducible exact Calls.quiet_of (S.out _)))
          go_wp2
          go_ret
          exact ⟨rfl, _, _, H.out.made ⟨rfl, rfl, rfl, Nat.le_refl _, fun _ _ _ => rfl⟩, MG.of_made _ _ _ ⟨rfl, rfl, rfl, Nat.le_refl _, fun _ _ _ => rfl⟩⟩
      · have h3i : ¬ (x0 : Int) = 2 := by omega
        rw [if_neg (fun e => h3 e.1)]
        clear h hlim h1 h2 h3
        go_enter Try.func54, Try.ntmps54
        go_wp2
        go_quiet ((go_at_call 45; with_reducible exact Calls.quiet_of (S.out _)))
        go_wp2
        go_ret
        exact ⟨rfl, _, _, H.out.made ⟨rfl, rfl, rfl, Nat.le_refl _, fun _ _ _ => rfl⟩, MG.of_made _ _ _ ⟨rfl, rfl, rfl, Nat.le_refl _, fun _ _ _ => rfl⟩⟩

set_option maxHeartbeats 2000000 in
theorem mtakeF_any (w : World) (base m : Nat) (us vs : Nat → Value) (C : Nat → Ch) (h : MX w base m us vs C) (hlim : ∀ i, i < 4 → (C i).credit ≤ 1024 ∧ (C i).came.length ≤ 4096 ∧ (C i).room ≤ 1024) (c : Int) (hi : I64 c) (A : Option Addr) (l : List UInt8) (n cap : Nat) (hn : l.length = n) (hr : RB w w.heap.size A l cap) (hnl : n ≤ 1000000) :
    Calls Try.prog 33 #[.pointer (some ⟨m, 0, none⟩), .agg #[.int .i64 c, .slice A n cap]] w fun e w' => e = .returned (.int .i64 (muT C (c, l)).1) ∧ ∃ us' vs', MX w' base m us' vs' (muT C (c, l)).2 ∧ MG w w' m us vs us' vs' := by
  obtain ⟨w1, hw1⟩ : ∃ x, w.alloc (.cells #[.int .i64 c, .slice A n cap] 24) = x := ⟨_, rfl⟩
  have g1 : w.grownBy w1 none := by rw [← hw1]; exact grown_alloc _ _ _
  have h1 := h.made g1
  have hr1 : RB w1 w1.heap.size A l cap := (hr.below (below_rw g1 (Nat.le_refl _))).more g1.size
  have S := Lib.hid (mside_any w1 m c hi)
  subst hw1
  have H1 := Lib.hid h1
  have G1 := Lib.hid g1
  by_cases h4 : c = 4
  · have hm : muT C (c, l) = ctlM C l := by unfold muT; rw [if_pos h4]
    have SW := Lib.hid (mctl_any _ base m us vs C h1 (fun i hi => (hlim i hi).1) A l n cap hn hr1 hnl)
    rw [hm]
    subst h4
    clear h hi hm hr hn hlim h1 hr1 g1
    go_enter Try.func33, Try.ntmps33
    go_wp2_with (go_at_call 54; refine SW.out.mono ?_; rintro e w2 ⟨rfl, us', vs', k1, k2⟩; have K1 := Lib.hid k1; have K2 := Lib.hid k2; clear k1 k2)
    go_ret
    exact ⟨rfl, _, _, K1.out, (MG.of_made m us vs G1.out).trans K2.out⟩
  by_cases hb : badC c
  · have hm : muT C (c, l) = (100, C) := by unfold muT; rw [if_neg h4, if_pos hb]
    rw [hm]
    unfold badC at hb
    rw [if_pos hb] at S
    clear h hb hi hm hr hn hlim h1 hr1 g1
    go_enter Try.func33, Try.ntmps33
    go_wp2_with (go_at_call 45; refine S.out.mono ?_; rintro e w2 ⟨rfl, rfl⟩)
    go_ret
    exact ⟨rfl, _, _, H1.out, MG.of_made m us vs G1.out⟩
  · have hm : muT C (c, l) = (takeE (C c.toNat) n, upd C c.toNat (if takeE (C c.toNat) n = 0 then chTake (C c.toNat) l else C c.toNat)) := by unfold muT; rw [if_neg h4, if_neg hb]; rw [← hn]
    have hi4 : c.toNat < 4 := by unfold badC at hb; omega
    have SW := Lib.hid (mtake_any _ base m (8 * c.toNat) _ _ _ _ (h1.side hi4) (hlim _ hi4).2.1 (hlim _ hi4).2.2 A l n cap hn hr1 hnl)
    rw [hm]
    unfold badC at hb
    rw [if_neg hb] at S
    clear h hb hi hm hr hn hlim h1 hr1 g1
    generalize c.toNat = j at *
    generalize takeE (C j) n = we at *
    generalize (if we = 0 then chTake (C j) l else C j) = cc at *
    go_enter Try.func33, Try.ntmps33
    go_wp2_with (first
      | (go_at_call 45; refine S.out.mono ?_; rintro e w2 ⟨rfl, rfl⟩)
      | (go_at_call 55; refine SW.out.mono ?_; rintro e w3 ⟨rfl, v', k1, k2, k3⟩; have K := Lib.hid (H1.out.step hi4 k1 (sdU_v k3) (.inl rfl) k2); clear k1 k2 k3))
    go_ret
    exact ⟨rfl, _, _, K.out.1, (MG.of_made m us vs G1.out).trans K.out.2⟩
end Go.Proofs.Ytajfaplaaafjiaa
