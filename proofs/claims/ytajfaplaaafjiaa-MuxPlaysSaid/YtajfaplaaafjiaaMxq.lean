/- The walk of the example. -/
import Derived.Test.YtajfaplaaafjiaaMxp
namespace Go.Proofs.Ytajfaplaaafjiaa
open Go.RowKit

section
variable {w w1 x y : World} {base m m' b off cap B k : Nat} {us vs us' vs' us1 vs1 : Nat → Value} {C C' C1 : Nat → Ch} {fs : List Fr} {f : Fr}
theorem RF.here (h : RF w B (some ⟨b, off, none⟩) fs cap) (hf : fs[k]? = some f) : w.cell? ⟨b, off + k * 2, none⟩ = some (.int .i64 f.1) ∧ ∃ V c, w.cell? ⟨b, off + k * 2 + 1, none⟩ = some (.slice V f.2.length c) ∧ RB w B V f.2 c := by
  obtain ⟨b', off', e, -, hc⟩ := h.open_ (by have := (List.getElem?_eq_some_iff.1 hf).1; omega)
  injection e with e
  injection e with e1 e2
  subst e1 e2
  exact hc k f hf
/-- Two Muxes that were made since w. -/
structure SX (w x : World) (m : Nat) (us vs : Nat → Value) (C : Nat → Ch) (m' : Nat) (us' vs' : Nat → Value) (C' : Nat → Ch) : Prop where
  mp : MP x w.heap.size w.heap.size m us vs C m' us' vs' C'
  gr : w.grownBy x none
theorem SX.new {w2 : World} (h1 : MX w1 base m us vs C) (hb : w.heap.size ≤ base) (g1 : w.grownBy w1 none) (h2 : MX w2 w1.heap.size m' us' vs' C') (g2 : w1.grownBy w2 none) : SX w w2 m us vs C m' us' vs' C' := by
  have h := MP.new h1 h2 g2
  exact ⟨⟨h.a.base_ hb, h.b.base_ g1.size, h.ap⟩, grown_trans' g1 g2⟩
theorem SX.swap (h : SX w x m us vs C m' us' vs' C') : SX w x m' us' vs' C' m us vs C := ⟨h.mp.swap, h.gr⟩
theorem SX.made (h : SX w x m us vs C m' us' vs' C') (g : x.grownBy y none) : SX w y m us vs C m' us' vs' C' := ⟨h.mp.made g, grown_trans' h.gr g⟩
theorem gr_mux (h : MX x w.heap.size m us vs C) (g : w.grownBy x none) (k : MG x y m us vs us1 vs1) : w.grownBy y none :=
  (Mod.next (S := fun z => w.heap.size ≤ z) (Mod.made g) k.1 (fun i hi hs => (h.lt i hs).1)).none (fun k hk e => by omega)
theorem SX.step (h : SX w x m us vs C m' us' vs' C') (k : MX y w.heap.size m us1 vs1 C1) (g : MG x y m us vs us1 vs1) : SX w y m us1 vs1 C1 m' us' vs' C' := ⟨h.mp.step k g, gr_mux h.mp.a h.gr g⟩
end

theorem OwnB.rb_ {w : World} {base : Nat} {t : TypeId} {A : Option Addr} {n c : Nat} {l : List UInt8} (h : OwnB w base t (.slice A n c) l) : RB w w.heap.size A l c := by
  obtain ⟨A', c', e, r, -⟩ := h.shape
  injection e with e1 _ e3
  subst e1 e3
  exact r
theorem lim_c0 : LimA c0A := LimA.new
theorem lim_A1 : LimA spA1 := lim_c0.muW _ _
theorem lim_A2 : LimA spA2 := lim_A1.out
theorem lim_A3 : LimA spA3 := lim_A2.muT _
theorem lim_B1 : LimA spB1 := lim_c0.muT _
theorem lim_B2 : LimA spB2 := lim_B1.muT _
theorem lim_B3 : LimA spB3 := lim_B2.muR _ _
theorem muA {w : World} {base m : Nat} {us vs : Nat → Value} {C : Nat → Ch} (h : MX w base m us vs C) (l : LimA C) (i : Int) (hi : I64 i) (A : Option Addr) (t : List UInt8) (n cap : Nat) (hn : t.length = n) (hr : RB w w.heap.size A t cap) (hnl : n ≤ 1000000) :
    Calls Try.prog 25 #[.pointer (some ⟨m, 0, none⟩), .int .i64 i, .slice A n cap] w fun e w' => e = .returned (.int .i64 (muW C i t).1) ∧ ∃ us' vs', MX w' base m us' vs' (muW C i t).2 ∧ MG w w' m us vs us' vs' :=
  muwrite_any w base m us vs C h (fun i hi => (l i hi).bounds.2.2.2.2) i hi A t n cap hn hr hnl
theorem muB {w : World} {base m : Nat} {us vs : Nat → Value} {C : Nat → Ch} (h : MX w base m us vs C) (l : LimA C) (f : Fr) (hi : I64 f.1) (A : Option Addr) (n cap : Nat) (hn : f.2.length = n) (hr : RB w w.heap.size A f.2 cap) (hnl : n ≤ 1000000) :
    Calls Try.prog 33 #[.pointer (some ⟨m, 0, none⟩), .agg #[.int .i64 f.1, .slice A n cap]] w fun e w' => e = .returned (.int .i64 (muT C f).1) ∧ ∃ us' vs', MX w' base m us' vs' (muT C f).2 ∧ MG w w' m us vs us' vs' :=
  mtakeF_any w base m us vs C h (fun i hi => ⟨(l i hi).bounds.1, (l i hi).bounds.2.1, (l i hi).bounds.2.2.1⟩) f.1 hi A f.2 n cap hn hr hnl
theorem muG {w : World} {base m : Nat} {us vs : Nat → Value} {C : Nat → Ch} (h : MX w base m us vs C) (l : LimA C) (i most : Int) (hi : I64 i) (hmo : I64 most) :
    Calls Try.prog 29 #[.pointer (some ⟨m, 0, none⟩), .int .i64 i, .int .i64 most] w fun e w' => ∃ A' c', e = .returned (.slice A' (rdK C i most) c') ∧ OwnB w' w.heap.size 5 (.slice A' (rdK C i most) c') (muR C i most).1 ∧
      ∃ us' vs', MX w' base m us' vs' (muR C i most).2 ∧ MG w w' m us vs us' vs' ∧ ∀ g, (Value.slice A' (rdK C i most) c').ownBlock = some g → ¬ mxS m us' vs' g :=
  muread_any w base m us vs C h (fun i hi => ⟨(l i hi).bounds.2.1, (l i hi).bounds.2.2.2.1⟩) i most hi hmo

/-- Frames that were let go, and both Muxes. -/
structure SF (w x : World) (lo hi m : Nat) (us vs : Nat → Value) (C : Nat → Ch) (m' : Nat) (us' vs' : Nat → Value) (C' : Nat → Ch) (v : Value) (fs : List Fr) : Prop where
  sx : SX w x m us vs C m' us' vs' C'
  fi : FI x lo hi v fs
  ou : Ou lo hi m' us' vs'
section
variable {w x y : World} {lo hi m m' : Nat} {us vs us' vs' us1 vs1 : Nat → Value} {C C' C1 : Nat → Ch} {fs : List Fr} {v : Value}
/-- The first one lets frames go. -/
theorem SX.out (h : SX w x m us vs C m' us' vs' C') (o : OI x y w.heap.size m us vs us1 vs1 C1 v fs) : SF w y x.heap.size y.heap.size m us1 vs1 C1 m' us' vs' C' v fs :=
  ⟨h.step o.mx o.mg, o.fi, h.mp.b.old _⟩
/-- The second one is called. -/
theorem SF.step (h : SF w x lo hi m us vs C m' us' vs' C' v fs) (k : MX y w.heap.size m' us1 vs1 C1) (g : MG x y m' us' vs' us1 vs1) : SF w y lo hi m us vs C m' us1 vs1 C1 v fs :=
  ⟨(h.sx.swap.step k g).swap, h.fi.call h.ou g, h.ou.step g h.fi.hh⟩
theorem SF.made (h : SF w x lo hi m us vs C m' us' vs' C' v fs) (g : x.grownBy y none) : SF w y lo hi m us vs C m' us' vs' C' v fs := ⟨h.sx.made g, h.fi.made g, h.ou⟩
theorem SF.here {b off n c k : Nat} {f : Fr} (h : SF w x lo hi m us vs C m' us' vs' C' (.slice (some ⟨b, off, none⟩) n c) fs) (hf : fs[k]? = some f) :
    x.cell? ⟨b, off + k * 2, none⟩ = some (.int .i64 f.1) ∧ ∃ V c, x.cell? ⟨b, off + k * 2 + 1, none⟩ = some (.slice V f.2.length c) ∧ RB x x.heap.size V f.2 c := by
  obtain ⟨A, cap, e, hr⟩ := h.fi.rf
  injection e with e1 _ e3
  subst e1 e3
  exact hr.here hf
theorem SF.addr {A : Option Addr} {n c : Nat} (h : SF w x lo hi m us vs C m' us' vs' C' (.slice A n c) fs) (hp : 0 < fs.length) : ∃ b off, A = some ⟨b, off, none⟩ := by
  obtain ⟨A', cap, e, hr⟩ := h.fi.rf
  injection e with e1 _ e3
  subst e1 e3
  obtain ⟨b, off, e, -⟩ := hr.open_ hp
  exact ⟨b, off, e⟩
end

set_option maxRecDepth 100000 in
set_option maxHeartbeats 4000000 in
theorem speaks18_any (w : World) : Calls Try.prog 19 #[] w fun e w' => e = .returned (.bool true) ∧ w.grownBy w' none := by
  go_enter Try.func19, Try.ntmps19
  go_wp2_with (first
    | (go_at_call 21; have hx := X1; clear hx; refine (mnew_any _).mono ?_; rintro e w2 ⟨rfl, x2, g2⟩; have S0 := Lib.hid (show SX w w2 w.heap.size nilV nilV c0A w1.heap.size nilV nilV c0A from SX.new X1.out.1 (Nat.le_refl _) X1.out.2 x2 g2); clear X1 x2 g2)
    | (go_at_call 21; refine (mnew_any _).mono ?_; rintro e w1 ⟨rfl, x1, g1⟩; have X1 := Lib.hid (show MX w1 w.heap.size w.heap.size nilV nilV (fun _ => ch0) ∧ w.grownBy w1 none from ⟨x1, g1⟩); clear x1 g1)
    | (go_at_call 23; refine (text_any _ 1500 0 (by omega) (by omega)).mono ?_; rintro e w3 ⟨A3, c3, rfl, o3, g3⟩; have O3 := Lib.hid (show OwnB w3 w2.heap.size 5 (.slice A3 1500 c3) spT from o3); have S3 := Lib.hid (S0.out.made g3); clear o3 g3 S0)
    | (go_at_call 25
       refine (muA S3.out.mp.a lim_c0 0 ⟨by omega, by omega⟩ A3 spT 1500 c3 spT_len (OwnB.rb_ O3.out) (by omega)).mono ?_
       rw [spW]
       rintro e w4 ⟨rfl, us4, vs4, k4, g4⟩
       have S4 := Lib.hid (show SX w w4 w.heap.size us4 vs4 spA1 w1.heap.size nilV nilV c0A from S3.out.step k4 g4)
       clear k4 g4 S3 O3)
    | (go_at_call 31; have hx := S8; clear hx
       refine (muout_any _ _ _ _ _ spB3 S8.out.mp.b lim_B3).mono ?_
       rintro e w9 ⟨A9, n9, c9, us9, vs9, rfl, hn9, o9⟩
       rw [spG] at hn9 o9
       subst hn9
       have S9 := Lib.hid (show SF w w9 w8.heap.size w9.heap.size w1.heap.size us9 vs9 spB4 w.heap.size _ _ spA2 _ _ from S8.out.swap.out o9)
       clear S8 o9)
    | (go_at_call 31; have hx := S4; clear hx
       refine (muout_any _ _ _ _ _ spA1 S4.out.mp.a lim_A1).mono ?_
       rintro e w5 ⟨A5, n5, c5, us5, vs5, rfl, hn5, o5⟩
       rw [spF] at hn5 o5
       subst hn5
       have S5 := Lib.hid (show SF w w5 w4.heap.size w5.heap.size w.heap.size us5 vs5 spA2 w1.heap.size nilV nilV c0A _ _ from S4.out.out o5)
       obtain ⟨b5, off5, rfl⟩ := S5.out.addr (by simp)
       obtain ⟨q0, V0, cv0, q1, r0⟩ := S5.out.here (k := 0) rfl
       obtain ⟨q2, V1, cv1, q3, r1⟩ := S5.out.here (k := 1) rfl
       simp only [Nat.zero_mul, Nat.add_zero, Nat.one_mul, spt0_len, spt1_len, Nat.add_assoc, Nat.reduceAdd] at q0 q1 q2 q3
       have R0 := Lib.hid r0
       clear S4 o5 r0 r1)
    | (go_at_call 33; have hx := S6; clear hx
       refine (muB S6.out.sx.mp.b lim_B1 ((0 : Int), spt1) ⟨by omega, by omega⟩ V2 512 cv2 spt1_len R1.out (by omega)).mono ?_
       rintro e w7 ⟨rfl, us7, vs7, k7, g7⟩
       have S7 := Lib.hid (show SX w w7 w.heap.size us5 vs5 spA2 w1.heap.size us7 vs7 spB2 from (S6.out.step k7 g7).sx)
       clear S6 k7 g7 R1 q2 q3)
    | (go_at_call 33; have hx := S5; clear hx
       refine (muB S5.out.sx.mp.b lim_c0 ((0 : Int), spt0) ⟨by omega, by omega⟩ V0 512 cv0 spt0_len R0.out (by omega)).mono ?_
       rintro e w6 ⟨rfl, us6, vs6, k6, g6⟩
       have S6 := Lib.hid (show SF w w6 w4.heap.size w5.heap.size w.heap.size us5 vs5 spA2 w1.heap.size us6 vs6 spB1 _ _ from S5.out.step k6 g6)
       clear S5 k6 g6 R0 q0 q1 q2 q3
       obtain ⟨q2, V2, cv2, q3, r1⟩ := S6.out.here (k := 1) rfl
       simp only [Nat.one_mul, spt1_len, Nat.add_assoc, Nat.reduceAdd] at q2 q3
       have R1 := Lib.hid r1
       clear r1)
    | (go_at_call 29
       refine (muG S7.out.mp.b lim_B2 0 2000 ⟨by omega, by omega⟩ ⟨by omega, by omega⟩).mono ?_
       rintro e w8 ⟨A8, c8, rfl, -, us8, vs8, k8, g8, -⟩
       have S8 := Lib.hid (show SX w w8 w.heap.size us5 vs5 spA2 w1.heap.size us8 vs8 spB3 from (S7.out.swap.step k8 g8).swap)
       clear S7 k8 g8))
  go_loopw [57] (fun i wr => ∃ (k : Nat) (us vs : Nat → Value) (C : Nat → Ch), i = .int .i64 k ∧ (k = 0 ∧ C = spA2 ∨ k = 1 ∧ C = spA3) ∧ SF w wr w8.heap.size w9.heap.size w1.heap.size us9 vs9 spB4 w.heap.size us vs C (.slice A9 [((4 : Int), ctlB 1 0 1024)].length c9) [((4 : Int), ctlB 1 0 1024)]) (fun i _ => 1 - (intOf i).toNat)
  case atStart => exact ⟨0, _, _, _, rfl, .inl ⟨rfl, rfl⟩, S9.out⟩
  case round =>
    obtain ⟨k, us, vs, C, rfl, ⟨rfl, rfl⟩ | ⟨rfl, rfl⟩, h⟩ := hrel
    · obtain ⟨b9, off9, rfl⟩ := h.addr (by simp)
      obtain ⟨p0, V0, cv0, p1, r0⟩ := h.here (k := 0) rfl
      have q1 : wr.cell? ⟨b9, off9 + 0 * 2 + 1, none⟩ = some (.slice V0 4 cv0) := p1
      have q0 : wr.cell? ⟨b9, off9 + 0 * 2, none⟩ = some (.int .i64 4) := p0
      clear p0 p1
      simp only [Nat.zero_mul, Nat.add_zero] at q0 q1
      obtain ⟨wa, hwa⟩ : ∃ x, wr.alloc (.cells #[.int .i64 4, .slice V0 4 cv0] 24) = x := ⟨_, rfl⟩
      have hz : w9.heap.size ≤ wr.heap.size := h.fi.hh
      have H2 := Lib.hid (show SF w wa w8.heap.size w9.heap.size w1.heap.size us9 vs9 spB4 w.heap.size us vs spA2 _ _ from h.made (by rw [← hwa]; exact grown_alloc _ _ none))
      have R0 := Lib.hid (show RB wa wa.heap.size V0 (ctlB 1 0 1024) cv0 from by
        have g : wr.grownBy wa none := by rw [← hwa]; exact grown_alloc _ _ none
        exact (r0.below (below_rw g (Nat.le_refl _))).more g.size)
      have HWA := Lib.hid hwa
      clear h r0 hwa
      go_wp2_with (first
      | (go_at_call 33
         rw [HWA.out]
         refine (muB H2.out.sx.mp.b lim_A2 ((4 : Int), ctlB 1 0 1024) ⟨by omega, by omega⟩ V0 4 cv0 rfl R0.out (by omega)).mono ?_
         rintro e w10 ⟨rfl, us10, vs10, k10, g10⟩
         have S10 := Lib.hid (show SF w w10 w8.heap.size w9.heap.size w1.heap.size us9 vs9 spB4 w.heap.size us10 vs10 spA3 _ _ from H2.out.step k10 g10)
         clear k10 g10))
      go_roundw
      case rel => exact ⟨1, _, _, _, rfl, .inr ⟨rfl, rfl⟩, S10.out⟩
      case measure => simp [intOf]
    · have H := Lib.hid h
      clear h
      go_wp2_with (first
      | (go_at_call 31
         refine (muout_any _ _ _ _ _ spA3 H.out.sx.mp.b lim_A3).mono ?_
         rintro e w11 ⟨A11, n11, c11, us11, vs11, rfl, hn11, o11⟩
         rw [spH] at hn11 o11
         subst hn11
         have S11 := Lib.hid (show SF w w11 wr.heap.size w11.heap.size w.heap.size us11 vs11 (outM 4 spA3).2 w1.heap.size us9 vs9 spB4 _ _ from H.out.sx.swap.out o11)
         obtain ⟨b11, off11, rfl⟩ := S11.out.addr (by simp)
         obtain ⟨q0, V0, cv0, q1, r0⟩ := S11.out.here (k := 0) rfl
         simp only [Nat.zero_mul, Nat.add_zero, spt2_len] at q0 q1
         clear o11 r0))
      go_ret
      exact ⟨rfl, S11.out.sx.gr⟩
end Go.Proofs.Ytajfaplaaafjiaa
