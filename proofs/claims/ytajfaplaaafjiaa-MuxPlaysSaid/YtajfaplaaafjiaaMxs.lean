/- The walk of MuxRoom. -/
import Derived.Test.YtajfaplaaafjiaaMxr
namespace Go.Proofs.Ytajfaplaaafjiaa
open Go.RowKit

def cells4 (S : Nat → Nat) : List Value := [.int .i64 (S 0), .int .i64 (S 1), .int .i64 (S 2), .int .i64 (S 3)]
theorem cells4_at {S : Nat → Nat} : ∀ {i : Nat}, i < 4 → (cells4 S)[i]? = some (.int .i64 (S i))
  | 0, _ => rfl
  | 1, _ => rfl
  | 2, _ => rfl
  | 3, _ => rfl
  | n + 4, h => by omega
theorem cells4_set {S : Nat → Nat} {x : Nat} : ∀ {i : Nat}, i < 4 → (cells4 S).set i (.int .i64 x) = cells4 (upd S i x)
  | 0, _ => rfl
  | 1, _ => rfl
  | 2, _ => rfl
  | 3, _ => rfl
  | n + 4, h => by omega
section
variable {w x y : World} {base m g4 g5 : Nat} {us vs us1 vs1 : Nat → Value} {C C1 : Nat → Ch} {S B : Nat → Nat}
theorem MX.ne_cells (h : MX w base m us vs C) {g : Nat} {t : TypeId} {cs : List Value} (hc : CB w g t cs) (h1 : 87 ≠ t) (h2 : 5 ≠ t) : ¬ mxS m us vs g := by
  rintro (rfl | ⟨i, hi, e | e⟩)
  · have := (h.cb).symm.trans hc
    injection this with this
    injection this with _ ht
    exact h1 ht
  · exact (h.ou i hi).ne_cells hc h2 e
  · exact (h.ov i hi).ne_cells hc h2 e
/-- A Mux and two rows of four numbers, made since w. -/
structure RM (w x : World) (m : Nat) (us vs : Nat → Value) (C : Nat → Ch) (g4 : Nat) (S : Nat → Nat) (g5 : Nat) (B : Nat → Nat) : Prop where
  mx : MX x w.heap.size m us vs C
  gr : w.grownBy x none
  cs : CB x g4 76 (cells4 S)
  cb : CB x g5 76 (cells4 B)
  ne : g4 ≠ g5
  h4 : w.heap.size ≤ g4
  h5 : w.heap.size ≤ g5
theorem RM.made (h : RM w x m us vs C g4 S g5 B) (g : x.grownBy y none) : RM w y m us vs C g4 S g5 B := ⟨h.mx.made g, grown_trans' h.gr g, h.cs.kept g, h.cb.kept g, h.ne, h.h4, h.h5⟩
theorem RM.step (h : RM w x m us vs C g4 S g5 B) (k : MX y w.heap.size m us1 vs1 C1) (g : MG x y m us vs us1 vs1) : RM w y m us1 vs1 C1 g4 S g5 B :=
  ⟨k, gr_mux h.mx h.gr g, h.cs.mod g.1 (h.mx.ne_cells h.cs (by decide) (by decide)), h.cb.mod g.1 (h.mx.ne_cells h.cb (by decide) (by decide)), h.ne, h.h4, h.h5⟩
theorem RM.put5 (h : RM w x m us vs C g4 S g5 B) {i : Nat} (hi : i < 4) (z : Nat) : RM w (x.setCell ⟨g5, i, none⟩ (.int .i64 z)) m us vs C g4 S g5 (upd B i z) := by
  have hg := grownC_set x g5 i (.int .i64 z)
  refine ⟨h.mx.mod (Mod.of_grown hg) (fun k hk e => ?_), none_new h.gr hg h.h5, h.cs.grown hg h.ne, ?_, h.ne, h.h4, h.h5⟩
  · injection e with e
    subst e
    exact h.mx.ne_cells h.cb (by decide) (by decide) hk
  · rw [← cells4_set hi]
    exact h.cb.set_ i _
theorem RM.swap (h : RM w x m us vs C g4 S g5 B) : RM w x m us vs C g5 B g4 S := ⟨h.mx, h.gr, h.cb, h.cs, h.ne.symm, h.h5, h.h4⟩
theorem RM.put4 (h : RM w x m us vs C g4 S g5 B) {i : Nat} (hi : i < 4) (z : Nat) : RM w (x.setCell ⟨g4, i, none⟩ (.int .i64 z)) m us vs C g4 (upd S i z) g5 B := (h.swap.put5 hi z).swap
theorem FI.put {lo hi : Nat} {v : Value} {fs : List Fr} (h : FI x lo hi v fs) {g i : Nat} (z : Value) (hg : g < lo) : FI (x.setCell ⟨g, i, none⟩ z) lo hi v fs :=
  h.mod (Mod.of_grown (grownC_set x g i z)) (fun k h1 _ e => by injection e with e; omega)
end
/-- What stands at the head of each round. -/
def RmRel (w : World) (m g4 g5 n0 : Nat) (s25 : Value) (wr : World) : Prop :=
  ∃ (k : Nat) (us vs : Nat → Value) (C : Nat → Ch) (S B : Nat → Nat), s25 = .int .i64 k ∧ k ≤ n0 ∧ RM w wr m us vs C g4 S g5 B ∧ LimA C ∧ (∀ i, i < 4 → S i + (C i).credit = 1024 + B i) ∧ ∀ i, i < 4 → B i ≤ 1023 * k
/-- .. of each round over the frames. -/
def RmIn (w : World) (m g4 g5 lo hi n5 : Nat) (us vs : Nat → Value) (C : Nat → Ch) (S B : Nat → Nat) (v : Value) (F : List Fr) (s71 : Value) (wr : World) : Prop :=
  ∃ (j : Nat) (S' : Nat → Nat), s71 = .int .i64 j ∧ j ≤ n5 ∧ RM w wr m us vs C g4 S' g5 B ∧ FI wr lo hi v F ∧ ∀ i, i < 4 → S' i = S i + sentOf i (F.take j)
def RmChk (w : World) (m g4 g5 : Nat) (us vs : Nat → Value) (C : Nat → Ch) (S B : Nat → Nat) (s88 : Value) (wr : World) : Prop :=
  ∃ j : Nat, s88 = .int .i64 j ∧ j ≤ 4 ∧ RM w wr m us vs C g4 S g5 B

set_option maxRecDepth 10000 in
set_option maxHeartbeats 8000000 in
theorem walk_MuxRoom (w : World) (A0 : Option Addr) (os : List Op8) (cap0 : Nat) (h0 : RO w w.heap.size A0 os cap0) (hb : ∀ o ∈ os, o.ok) :
    Calls Try.prog 9 #[.slice A0 os.length cap0] w fun e w' => e = .returned (.bool true) ∧ Below w.heap.size w w' := by
  have H0 := Lib.hid h0
  have HB := Lib.hid hb
  obtain ⟨n0, hn0⟩ : ∃ m, os.length = m := ⟨_, rfl⟩
  have N0 := Lib.hid hn0
  rw [hn0]
  clear h0 hb
  cases hgr : great8 os with
  | true =>
    have GR := Lib.hid (fun w1 (g1 : w.grownBy w1 none) => great_any w1 A0 os n0 cap0 hn0 ((H0.out.below (below_rw g1 (Nat.le_refl _))).more g1.size))
    rw [hgr] at GR
    clear hn0 hgr
    go_enter Try.func9, Try.ntmps9
    go_wp2_with (first
      | (go_at_call 19; refine (speaks18_any _).mono ?_; rintro e w1 ⟨rfl, g1⟩; have G1 := Lib.hid g1; clear g1)
      | (go_at_call 20; refine (GR.out _ G1.out).mono ?_; rintro e w2 ⟨rfl, g2⟩; have G2 := Lib.hid (grown_trans' G1.out g2); clear g2))
    go_ret
    exact ⟨rfl, below_of_none G2.out⟩
  | false =>
    have GR := Lib.hid (fun w1 (g1 : w.grownBy w1 none) => great_any w1 A0 os n0 cap0 hn0 ((H0.out.below (below_rw g1 (Nat.le_refl _))).more g1.size))
    rw [hgr] at GR
    have HL := Lib.hid (great8_no hgr)
    have hn80 : n0 ≤ 80 := by rw [← hn0]; exact HL.out.1
    clear hn0 hgr
    go_enter Try.func9, Try.ntmps9
    go_wp2_with (first
      | (go_at_call 19; refine (speaks18_any _).mono ?_; rintro e w1 ⟨rfl, g1⟩; have G1 := Lib.hid g1; clear g1)
      | (go_at_call 20; refine (GR.out _ G1.out).mono ?_; rintro e w2 ⟨rfl, g2⟩; have G2 := Lib.hid (grown_trans' G1.out g2); clear g2)
      | (go_at_call 21; refine (mnew_any _).mono ?_; rintro e w3 ⟨rfl, x3, g3⟩; have X3 := Lib.hid x3; have G3 := Lib.hid (grown_trans' G2.out g3); clear x3 g3))
    have R3 := Lib.hid (show RmRel w w2.heap.size w3.heap.size (w3.heap.size + 1) n0 (.int .i64 0) ((w3.alloc (.cells #[.int .i64 0, .int .i64 0, .int .i64 0, .int .i64 0] 76)).alloc (.cells #[.int .i64 0, .int .i64 0, .int .i64 0, .int .i64 0] 76)) from by
      refine ⟨0, nilV, nilV, fun _ => ch0, fun _ => 0, fun _ => 0, rfl, Nat.zero_le _, ?_, LimA.new, fun i _ => rfl, fun i _ => Nat.zero_le _⟩
      have g1 : w3.grownBy (w3.alloc (.cells #[.int .i64 0, .int .i64 0, .int .i64 0, .int .i64 0] 76)) none := grown_alloc _ _ _
      have g2 : (w3.alloc (.cells #[.int .i64 0, .int .i64 0, .int .i64 0, .int .i64 0] 76)).grownBy ((w3.alloc (.cells #[.int .i64 0, .int .i64 0, .int .i64 0, .int .i64 0] 76)).alloc (.cells #[.int .i64 0, .int .i64 0, .int .i64 0, .int .i64 0] 76)) none := grown_alloc _ _ _
      have c5 := CB.new (w3.alloc (.cells #[.int .i64 0, .int .i64 0, .int .i64 0, .int .i64 0] 76)) 76 (cells4 fun _ => 0)
      rw [World.size_alloc] at c5
      exact ⟨((X3.out.base_ G2.out.size).made g1).made g2, grown_trans' G3.out (grown_trans' g1 g2), (CB.new w3 76 (cells4 fun _ => 0)).kept g2, c5, by omega, G3.out.size, Nat.le_succ_of_le G3.out.size⟩)
    clear X3
    go_loopw [25] (fun s25 wr => RmRel w w2.heap.size w3.heap.size (w3.heap.size + 1) n0 s25 wr) (fun s25 _ => n0 - (intOf s25).toNat)
    case atStart => exact R3.out
    case round =>
      obtain ⟨k, us, vs, C, S, B, rfl, hk, hR, hLim, hS, hB⟩ := hrel
      by_cases hlt : k < n0
      · obtain ⟨b, off, rfl, hbb, hc⟩ := H0.out.open_ (by rw [N0.out]; omega)
        obtain ⟨o, ho⟩ : ∃ o, os[k]? = some o := ⟨_, List.getElem?_eq_getElem (by rw [N0.out]; exact hlt)⟩
        obtain ⟨V, cV, r0, r1, r2, r3, r4, r5, hr⟩ := hc k o ho
        have be := below_rw hR.gr (Nat.le_refl _)
        have q0 := (be.cell (p := ⟨b, off + k * 6, none⟩) hbb).trans r0
        have q1 := (be.cell (p := ⟨b, off + k * 6 + 1, none⟩) hbb).trans r1
        have q2 := (be.cell (p := ⟨b, off + k * 6 + 2, none⟩) hbb).trans r2
        have q3 := (be.cell (p := ⟨b, off + k * 6 + 3, none⟩) hbb).trans r3
        have q4 := (be.cell (p := ⟨b, off + k * 6 + 4, none⟩) hbb).trans r4
        have q5 := (be.cell (p := ⟨b, off + k * 6 + 5, none⟩) hbb).trans r5
        have hki : (k : Int) < (n0 : Int) := by omega
        have hfl : o.fb.length ≤ 2000 := HL.out.2 o (List.mem_of_getElem? ho)
        have hk80 : k ≤ 80 := by omega
        clear hc r0 r1 r2 r3 r4 r5 hr ho hbb be
        obtain ⟨ok, osd, oc, oz, ofc, ofb⟩ := o
        simp only at q0 q1 q2 q3 q4 q5 hfl
        generalize ofb.length = ln at *
        obtain ⟨cc, hcl, hcc⟩ := and_low oc 2 (by omega)
        have hcc : bits .and .i64 oc 3 = (cc : Int) := hcc
        obtain ⟨k1, hk1, hkk⟩ := and_low ok 1 (by omega)
        have hkk : bits .and .i64 ok 1 = (k1 : Int) := hkk
        obtain ⟨nn, hnn, hzz⟩ := and_low oz 10 (by omega)
        have hzz : bits .and .i64 oz 1023 = (nn : Int) := hzz
        have SZ := Lib.hid (sizeN_eq oz)
        have RR := Lib.hid (hR.made (grown_alloc wr (.cells #[.int .i64 ok, .int .i64 osd, .int .i64 oc, .int .i64 oz, .int .i64 ofc, .slice V ln cV] 53) none))
        have LC := Lib.hid hLim
        have HS := Lib.hid hS
        have HBB := Lib.hid hB
        have HCL := Lib.hid (show cc < 4 from hcl)
        have HNN := Lib.hid (show nn < 1024 from hnn)
        clear hR hLim hS hB hcl hnn
        by_cases hk0 : k1 = 0
        · subst hk0
          go_wp2_with (first
          | (go_at_call 24; refine (size_any _ ok osd oc oz ofc V ln cV).mono ?_; rintro e w4 ⟨rfl, g4⟩; rw [SZ.out.1]; have R4 := Lib.hid (RR.out.made g4); clear g4)
          | (go_at_call 23; refine (text_any _ (sizeN oz) k (by have := SZ.out.2; omega) (by omega)).mono ?_; rintro e w5 ⟨A5, c5, rfl, o5, g5⟩; have O5 := Lib.hid o5; have R5 := Lib.hid (R4.out.made g5); clear o5 g5)
          | (go_at_call 25
             refine (muA R5.out.mx LC.out (cc : Int) ⟨by omega, by have := HCL.out; omega⟩ A5 (textB (sizeN oz) k) (sizeN oz) c5 (textB_len _ _) (OwnB.rb_ O5.out) (by have := SZ.out.2; omega)).mono ?_
             rintro e w6 ⟨rfl, us6, vs6, k6, g6⟩
             have SM := Lib.hid (R5.out.step k6 g6)
             have LM := Lib.hid (LC.out.muW (cc : Int) (textB (sizeN oz) k))
             have HSM := Lib.hid (show ∀ i, i < 4 → S i + ((muW C (cc : Int) (textB (sizeN oz) k)).2 i).credit = 1024 + B i from fun i hi => by rw [muW_credit]; exact HS.out i hi)
             have HBM := Lib.hid (show ∀ i, i < 4 → B i ≤ 1023 * (k + 1) from fun i hi => by have := HBB.out i hi; omega)
             clear k6 g6 R4 R5 O5)
          | (go_at_call 31
             refine (muout_any _ _ _ _ _ _ SM.out.mx LM.out).mono ?_
             rintro e w7 ⟨A7, n7, c7, us7, vs7, rfl, hn7, o7⟩
             have SN := Lib.hid (SM.out.step o7.mx o7.mg)
             have FN := Lib.hid o7.fi
             have GS4 := Lib.hid (SM.out.cs.lt)
             have N7 := Lib.hid hn7
             have F7 := Lib.hid (show n7 ≤ 9223372036854775807 from by have h1 := outM_len LM.out 4 (Nat.le_refl _); rw [hn7] at h1; omega)
             clear o7 hn7))
          have SENT := Lib.hid (fun i (hi : i < 4) => outM_sent 4 (Nat.le_refl _) (muW C (cc : Int) (textB (sizeN oz) k)).2 i hi)
          have CHN := Lib.hid (fun f (hf : f ∈ (outM 4 (muW C (cc : Int) (textB (sizeN oz) k)).2).1) => outM_chan 4 (muW C (cc : Int) (textB (sizeN oz) k)).2 hf)
          have LO := Lib.hid LM.out.out
          generalize (outM 4 (muW C (cc : Int) (textB (sizeN oz) k)).2).1 = F at *
          generalize (outM 4 (muW C (cc : Int) (textB (sizeN oz) k)).2).2 = CO at *
          generalize (muW C (cc : Int) (textB (sizeN oz) k)).2 = CM at *
          have hf7 := F7.out
          go_loopw [71] (fun s71 wr => RmIn w w2.heap.size w3.heap.size (w3.heap.size + 1) w6.heap.size w7.heap.size n7 us7 vs7 CO S B (.slice A7 n7 c7) F s71 wr) (fun s71 _ => n7 - (intOf s71).toNat)
          case atStart => exact ⟨0, S, rfl, Nat.zero_le _, SN.out, FN.out, fun i _ => rfl⟩
          case round =>
            obtain ⟨j, S', rfl, hj, hR, hF, hS'⟩ := hrel
            by_cases hjl : j < n7
            · obtain ⟨A7', c7', e7, rf7⟩ := hF.rf
              rw [N7.out] at e7
              injection e7 with e7 _ e7c
              subst e7 e7c
              obtain ⟨b7, off7, rfl, -⟩ := rf7.open_ (by rw [N7.out]; omega)
              obtain ⟨f, hf⟩ : ∃ f, F[j]? = some f := ⟨_, List.getElem?_eq_getElem (by rw [N7.out]; exact hjl)⟩
              obtain ⟨p0, Vf, cf, p1, rb⟩ := rf7.here hf
              have htk : F.take (j + 1) = F.take j ++ [f] := by rw [List.take_add_one, hf]; rfl
              have HTK := Lib.hid htk
              have HCH := Lib.hid (CHN.out f (List.mem_of_getElem? hf))
              have hji : (j : Int) < (n7 : Int) := by omega
              have hfbl : f.2.length ≤ 9223372036854775807 := by have h2 := rb.1; have h3 := rb.2.1; unfold maxLen at h3; omega
              have HTL := Lib.hid (fun i => sentOf_take_le i F (j + 1))
              obtain ⟨fc, fb⟩ := f
              simp only at p0 p1 HCH hfbl
              obtain ⟨fl, hfl2⟩ : ∃ x, fb.length = x := ⟨_, rfl⟩
              have HFL := Lib.hid hfl2
              rw [hfl2] at p1 hfbl
              have HF := Lib.hid (hF.made (grown_alloc wr (.cells #[.int .i64 fc, .slice Vf fl cf] 24) none))
              have RA := Lib.hid (hR.made (grown_alloc wr (.cells #[.int .i64 fc, .slice Vf fl cf] 24) none))
              have HSP := Lib.hid hS'
              clear hF hS' rf7 hf htk rb hfl2
              by_cases hf4 : fc < 4
              · obtain ⟨i, hi, rfl⟩ : ∃ i : Nat, i < 4 ∧ fc = (i : Int) := by
                  rcases HCH.out with e | e
                  · exact e
                  · exact absurd (show fc = 4 from e) (by omega)
                have HI := Lib.hid hi
                have hii : (i : Int) < 4 := by omega
                have HSN := Lib.hid (show ∀ z, z < 4 → upd S' i (S' i + fl) z = S z + sentOf z (F.take (j + 1)) from fun z hz => by
                  have e0 := HSP.out z hz
                  rw [HTK.out, sentOf_app]
                  by_cases e : z = i
                  · subst e; rw [upd_same, e0]; simp [sentOf, HFL.out]; omega
                  · rw [upd_ne _ _ _ e, e0]; simp only [sentOf]; rw [if_neg (fun e' => e (by have e' : (i : Int) = (z : Int) := e'; omega))]; omega)
                have HBD := Lib.hid (show S' i + fl ≤ 100000 from by
                  have e1 := HSN.out i hi
                  rw [upd_same] at e1
                  have e2 := HTL.out i
                  have e3 := SENT.out i hi
                  have e4 := HSM.out i hi
                  have e5 := HBM.out i hi
                  omega)
                have hw : IntKind.i64.wrap ((S' i : Int) + (fl : Int)) = ((S' i + fl : Nat) : Int) := by have := HBD.out; simp [IntKind.wrap, IntKind.bits, IntKind.signed]; omega
                obtain ⟨sx, hsx⟩ : ∃ x, S' i = x := ⟨_, rfl⟩
                rw [hsx] at hw HBD HSN
                have d5 := RA.out.cs.at_ (cells4_at (S := S') hi)
                rw [hsx] at d5
                have f5 := RA.out.cs.free i
                have CA := CB.new wr 24 [.int .i64 (i : Int), .slice Vf fl cf]
                have a0 := CA.at_ (i := 0) rfl
                have a1 := CA.at_ (i := 1) rfl
                clear hsx hi hf4 CA
                generalize sx + fl = sy at *
                go_wp2
                generalize wr.alloc (.cells #[.int .i64 (i : Int), .slice Vf fl cf] 24) = wa at *
                have RZ := Lib.hid (show RM w (wa.drew.setCell ⟨w3.heap.size, i, none⟩ (.int .i64 (sy : Int))) w2.heap.size us7 vs7 CO w3.heap.size (upd S' i sy) (w3.heap.size + 1) B from (RA.out.made (y := wa.drew) (grown_drew (World.grownBy.refl _ _))).put4 HI.out sy)
                have FZ := Lib.hid (show FI (wa.drew.setCell ⟨w3.heap.size, i, none⟩ (.int .i64 (sy : Int))) _ _ _ _ from (HF.out.made (w' := wa.drew) (grown_drew (World.grownBy.refl _ _))).put _ GS4.out)
                go_still_tail 9, (by kernel_rfl)
                change wpList _ _ _ _ _ wa.drew
                go_wp2
                go_roundw
                case rel => exact ⟨j + 1, _, by go_num, by omega, RZ.out, FZ.out, HSN.out⟩
                case measure => simp [intOf]; omega
              · have HSN := Lib.hid (show ∀ z, z < 4 → S' z = S z + sentOf z (F.take (j + 1)) from fun z hz => by
                  rw [HTK.out, sentOf_app, HSP.out z hz]
                  simp only [sentOf]
                  rw [if_neg (fun e' => hf4 (by have e' : fc = (z : Int) := e'; omega))]; omega)
                go_wp2
                go_roundw
                case rel => exact ⟨j + 1, _, by go_num, by omega, RA.out, HF.out, HSN.out⟩
                case measure => simp [intOf]; omega
            · obtain rfl : j = n7 := by omega
              have hS2 : ∀ i, i < 4 → S' i + (CO i).credit = 1024 + B i := fun i hi => by
                have e1 := hS' i hi
                rw [List.take_of_length_le (by rw [N7.out]; exact Nat.le_refl _)] at e1
                have e2 := SENT.out i hi
                have e3 := HSM.out i hi
                omega
              have HS2 := Lib.hid hS2
              have RX := Lib.hid hR
              clear hS2 hS' hR hF
              go_wp2
              go_loopw [88] (fun s88 wq => RmChk w w2.heap.size w3.heap.size (w3.heap.size + 1) us7 vs7 CO S' B s88 wq) (fun s88 _ => 4 - (intOf s88).toNat)
              case atStart => exact ⟨0, rfl, by omega, RX.out⟩
              case round =>
                obtain ⟨z, rfl, hz, hRz⟩ := hrel
                by_cases hz4 : z < 4
                · have hzi : (z : Int) < 4 := by omega
                  have e1 := HS2.out z hz4
                  have e2 := HBM.out z hz4
                  have e3 := (LO.out z hz4).cr
                  have d4 := hRz.cs.at_ (cells4_at (S := S') hz4)
                  have d5 := hRz.cb.at_ (cells4_at (S := B) hz4)
                  have RY := Lib.hid hRz
                  have hw : IntKind.i64.wrap ((S' z : Int) - (B z : Int)) = (S' z : Int) - (B z : Int) := by simp [IntKind.wrap, IntKind.bits, IntKind.signed]; omega
                  have h1 : ¬ (1024 : Int) < (S' z : Int) - (B z : Int) := by omega
                  have h2 : ¬ (S' z : Int) < (B z : Int) := by omega
                  clear hRz e1 e2 e3 hz4
                  generalize S' z = sx at *
                  generalize B z = bx at *
                  go_wp2
                  go_quiet (fail)
                  go_wp2
                  go_roundw
                  case rel => exact ⟨z + 1, by go_num, by omega, RY.out.made (y := wr.drewN nq) ⟨rfl, rfl, rfl, Nat.le_refl _, fun _ _ _ => rfl⟩⟩
                  case measure => simp [intOf]; omega
                · have RY := Lib.hid hRz
                  clear hRz
                  go_wp2
                  go_roundw
                  case rel => exact ⟨k + 1, us7, vs7, CO, S', B, by go_num, by omega, RY.out, LO.out, HS2.out, HBM.out⟩
                  case measure => simp [intOf]; omega
        · obtain rfl : k1 = 1 := by omega
          have hz2 : IntKind.u8.wrap (cc : Int) = (cc : Int) := by have := HCL.out; simp [IntKind.wrap, IntKind.bits, IntKind.signed]; omega
          by_cases hq : 1024 < (C cc).credit + nn
          · have HQ := Lib.hid hq
            clear hq
            go_wp2_with (first
              | (go_at_call 33
                 have o5 := OwnB.new4 (wr.alloc (.cells #[.int .i64 ok, .int .i64 osd, .int .i64 oc, .int .i64 oz, .int .i64 ofc, .slice V ln cV] 53)) w.heap.size 5 1 (UInt8.ofNat cc) (UInt8.ofNat (nn / 256)) (UInt8.ofNat (nn % 256)) 1 cc ((nn : Int) / 256 % 256) ((nn : Int) % 256)
                   rfl (by have := HCL.out; simp; omega) (by have := HNN.out; simp) (by have := HNN.out; simp) RR.out.gr.size
                 have R5 := RR.out.made (grown_alloc _ (.cells #[.int .u8 1, .int .u8 (cc : Int), .int .u8 ((nn : Int) / 256 % 256), .int .u8 ((nn : Int) % 256)] 5) none)
                 rw [World.size_alloc] at o5
                 refine (muB R5.mx LC.out ((4 : Int), [1, UInt8.ofNat cc, UInt8.ofNat (nn / 256), UInt8.ofNat (nn % 256)]) ⟨by omega, by omega⟩ _ 4 4 rfl (OwnB.rb_ o5) (by omega)).mono ?_
                 rw [muT_credit C HCL.out (by have := HNN.out; omega)]
                 rw [if_pos HQ.out, if_pos HQ.out, upd_self]
                 rintro e w6 ⟨rfl, us6, vs6, k6, g6⟩
                 have SM := Lib.hid (R5.step k6 g6)
                 have LM := Lib.hid LC.out
                 have HSM := Lib.hid HS.out
                 have HBM := Lib.hid (show ∀ i, i < 4 → B i ≤ 1023 * (k + 1) from fun i hi => by have := HBB.out i hi; omega)
                 clear k6 g6 R5 o5)
              | (go_at_call 31
                 refine (muout_any _ _ _ _ _ _ SM.out.mx LM.out).mono ?_
                 rintro e w7 ⟨A7, n7, c7, us7, vs7, rfl, hn7, o7⟩
                 have SN := Lib.hid (SM.out.step o7.mx o7.mg)
                 have FN := Lib.hid o7.fi
                 have GS4 := Lib.hid (SM.out.cs.lt)
                 have N7 := Lib.hid hn7
                 have F7 := Lib.hid (show n7 ≤ 9223372036854775807 from by have h1 := outM_len LM.out 4 (Nat.le_refl _); rw [hn7] at h1; omega)
                 clear o7 hn7))
            have SENT := Lib.hid (fun i (hi : i < 4) => outM_sent 4 (Nat.le_refl _) C i hi)
            have CHN := Lib.hid (fun f (hf : f ∈ (outM 4 C).1) => outM_chan 4 C hf)
            have LO := Lib.hid LM.out.out
            generalize (outM 4 C).1 = F at *
            generalize (outM 4 C).2 = CO at *
            generalize C = CM at *
            have hf7 := F7.out
            go_loopw [71] (fun s71 wr => RmIn w w2.heap.size w3.heap.size (w3.heap.size + 1) w6.heap.size w7.heap.size n7 us7 vs7 CO S B (.slice A7 n7 c7) F s71 wr) (fun s71 _ => n7 - (intOf s71).toNat)
            case atStart => exact ⟨0, S, rfl, Nat.zero_le _, SN.out, FN.out, fun i _ => rfl⟩
            case round =>
              obtain ⟨j, S', rfl, hj, hR, hF, hS'⟩ := hrel
              by_cases hjl : j < n7
              · obtain ⟨A7', c7', e7, rf7⟩ := hF.rf
                rw [N7.out] at e7
                injection e7 with e7 _ e7c
                subst e7 e7c
                obtain ⟨b7, off7, rfl, -⟩ := rf7.open_ (by rw [N7.out]; omega)
                obtain ⟨f, hf⟩ : ∃ f, F[j]? = some f := ⟨_, List.getElem?_eq_getElem (by rw [N7.out]; exact hjl)⟩
                obtain ⟨p0, Vf, cf, p1, rb⟩ := rf7.here hf
                have htk : F.take (j + 1) = F.take j ++ [f] := by rw [List.take_add_one, hf]; rfl
                have HTK := Lib.hid htk
                have HCH := Lib.hid (CHN.out f (List.mem_of_getElem? hf))
                have hji : (j : Int) < (n7 : Int) := by omega
                have hfbl : f.2.length ≤ 9223372036854775807 := by have h2 := rb.1; have h3 := rb.2.1; unfold maxLen at h3; omega
                have HTL := Lib.hid (fun i => sentOf_take_le i F (j + 1))
                obtain ⟨fc, fb⟩ := f
                simp only at p0 p1 HCH hfbl
                obtain ⟨fl, hfl2⟩ : ∃ x, fb.length = x := ⟨_, rfl⟩
                have HFL := Lib.hid hfl2
                rw [hfl2] at p1 hfbl
                have HF := Lib.hid (hF.made (grown_alloc wr (.cells #[.int .i64 fc, .slice Vf fl cf] 24) none))
                have RA := Lib.hid (hR.made (grown_alloc wr (.cells #[.int .i64 fc, .slice Vf fl cf] 24) none))
                have HSP := Lib.hid hS'
                clear hF hS' rf7 hf htk rb hfl2
                by_cases hf4 : fc < 4
                · obtain ⟨i, hi, rfl⟩ : ∃ i : Nat, i < 4 ∧ fc = (i : Int) := by
                    rcases HCH.out with e | e
                    · exact e
                    · exact absurd (show fc = 4 from e) (by omega)
                  have HI := Lib.hid hi
                  have hii : (i : Int) < 4 := by omega
                  have HSN := Lib.hid (show ∀ z, z < 4 → upd S' i (S' i + fl) z = S z + sentOf z (F.take (j + 1)) from fun z hz => by
                    have e0 := HSP.out z hz
                    rw [HTK.out, sentOf_app]
                    by_cases e : z = i
                    · subst e; rw [upd_same, e0]; simp [sentOf, HFL.out]; omega
                    · rw [upd_ne _ _ _ e, e0]; simp only [sentOf]; rw [if_neg (fun e' => e (by have e' : (i : Int) = (z : Int) := e'; omega))]; omega)
                  have HBD := Lib.hid (show S' i + fl ≤ 100000 from by
                    have e1 := HSN.out i hi
                    rw [upd_same] at e1
                    have e2 := HTL.out i
                    have e3 := SENT.out i hi
                    have e4 := HSM.out i hi
                    have e5 := HBM.out i hi
                    omega)
                  have hw : IntKind.i64.wrap ((S' i : Int) + (fl : Int)) = ((S' i + fl : Nat) : Int) := by have := HBD.out; simp [IntKind.wrap, IntKind.bits, IntKind.signed]; omega
                  obtain ⟨sx, hsx⟩ : ∃ x, S' i = x := ⟨_, rfl⟩
                  rw [hsx] at hw HBD HSN
                  have d5 := RA.out.cs.at_ (cells4_at (S := S') hi)
                  rw [hsx] at d5
                  have f5 := RA.out.cs.free i
                  have CA := CB.new wr 24 [.int .i64 (i : Int), .slice Vf fl cf]
                  have a0 := CA.at_ (i := 0) rfl
                  have a1 := CA.at_ (i := 1) rfl
                  clear hsx hi hf4 CA
                  generalize sx + fl = sy at *
                  go_wp2
                  generalize wr.alloc (.cells #[.int .i64 (i : Int), .slice Vf fl cf] 24) = wa at *
                  have RZ := Lib.hid (show RM w (wa.drew.setCell ⟨w3.heap.size, i, none⟩ (.int .i64 (sy : Int))) w2.heap.size us7 vs7 CO w3.heap.size (upd S' i sy) (w3.heap.size + 1) B from (RA.out.made (y := wa.drew) (grown_drew (World.grownBy.refl _ _))).put4 HI.out sy)
                  have FZ := Lib.hid (show FI (wa.drew.setCell ⟨w3.heap.size, i, none⟩ (.int .i64 (sy : Int))) _ _ _ _ from (HF.out.made (w' := wa.drew) (grown_drew (World.grownBy.refl _ _))).put _ GS4.out)
                  go_still_tail 9, (by kernel_rfl)
                  change wpList _ _ _ _ _ wa.drew
                  go_wp2
                  go_roundw
                  case rel => exact ⟨j + 1, _, by go_num, by omega, RZ.out, FZ.out, HSN.out⟩
                  case measure => simp [intOf]; omega
                · have HSN := Lib.hid (show ∀ z, z < 4 → S' z = S z + sentOf z (F.take (j + 1)) from fun z hz => by
                    rw [HTK.out, sentOf_app, HSP.out z hz]
                    simp only [sentOf]
                    rw [if_neg (fun e' => hf4 (by have e' : fc = (z : Int) := e'; omega))]; omega)
                  go_wp2
                  go_roundw
                  case rel => exact ⟨j + 1, _, by go_num, by omega, RA.out, HF.out, HSN.out⟩
                  case measure => simp [intOf]; omega
              · obtain rfl : j = n7 := by omega
                have hS2 : ∀ i, i < 4 → S' i + (CO i).credit = 1024 + B i := fun i hi => by
                  have e1 := hS' i hi
                  rw [List.take_of_length_le (by rw [N7.out]; exact Nat.le_refl _)] at e1
                  have e2 := SENT.out i hi
                  have e3 := HSM.out i hi
                  omega
                have HS2 := Lib.hid hS2
                have RX := Lib.hid hR
                clear hS2 hS' hR hF
                go_wp2
                go_loopw [88] (fun s88 wq => RmChk w w2.heap.size w3.heap.size (w3.heap.size + 1) us7 vs7 CO S' B s88 wq) (fun s88 _ => 4 - (intOf s88).toNat)
                case atStart => exact ⟨0, rfl, by omega, RX.out⟩
                case round =>
                  obtain ⟨z, rfl, hz, hRz⟩ := hrel
                  by_cases hz4 : z < 4
                  · have hzi : (z : Int) < 4 := by omega
                    have e1 := HS2.out z hz4
                    have e2 := HBM.out z hz4
                    have e3 := (LO.out z hz4).cr
                    have d4 := hRz.cs.at_ (cells4_at (S := S') hz4)
                    have d5 := hRz.cb.at_ (cells4_at (S := B) hz4)
                    have RY := Lib.hid hRz
                    have hw : IntKind.i64.wrap ((S' z : Int) - (B z : Int)) = (S' z : Int) - (B z : Int) := by simp [IntKind.wrap, IntKind.bits, IntKind.signed]; omega
                    have h1 : ¬ (1024 : Int) < (S' z : Int) - (B z : Int) := by omega
                    have h2 : ¬ (S' z : Int) < (B z : Int) := by omega
                    clear hRz e1 e2 e3 hz4
                    generalize S' z = sx at *
                    generalize B z = bx at *
                    go_wp2
                    go_quiet (fail)
                    go_wp2
                    go_roundw
                    case rel => exact ⟨z + 1, by go_num, by omega, RY.out.made (y := wr.drewN nq) ⟨rfl, rfl, rfl, Nat.le_refl _, fun _ _ _ => rfl⟩⟩
                    case measure => simp [intOf]; omega
                  · have RY := Lib.hid hRz
                    clear hRz
                    go_wp2
                    go_roundw
                    case rel => exact ⟨k + 1, us7, vs7, CO, S', B, by go_num, by omega, RY.out, LO.out, HS2.out, HBM.out⟩
                    case measure => simp [intOf]; omega
          · have HQ := Lib.hid hq
            have hbb2 : IntKind.i64.wrap ((B cc : Int) + (nn : Int)) = ((B cc + nn : Nat) : Int) := by have := HBB.out cc HCL.out; have := HNN.out; simp [IntKind.wrap, IntKind.bits, IntKind.signed]; omega
            obtain ⟨bx, hbx⟩ : ∃ x, B cc = x := ⟨_, rfl⟩
            have HBX := Lib.hid hbx
            rw [hbx] at hbb2
            obtain ⟨by_, hby⟩ : ∃ x, bx + nn = x := ⟨_, rfl⟩
            rw [hby] at hbb2
            have HBY := Lib.hid hby
            have hci4 : (cc : Int) < 4 := by have := HCL.out; omega
            clear hq hbx hby
            go_wp2_with (first
              | (go_at_call 33
                 have o5 := OwnB.new4 (wr.alloc (.cells #[.int .i64 ok, .int .i64 osd, .int .i64 oc, .int .i64 oz, .int .i64 ofc, .slice V ln cV] 53)) w.heap.size 5 1 (UInt8.ofNat cc) (UInt8.ofNat (nn / 256)) (UInt8.ofNat (nn % 256)) 1 cc ((nn : Int) / 256 % 256) ((nn : Int) % 256)
                   rfl (by have := HCL.out; simp; omega) (by have := HNN.out; simp) (by have := HNN.out; simp) RR.out.gr.size
                 have R5 := RR.out.made (grown_alloc _ (.cells #[.int .u8 1, .int .u8 (cc : Int), .int .u8 ((nn : Int) / 256 % 256), .int .u8 ((nn : Int) % 256)] 5) none)
                 rw [World.size_alloc] at o5
                 refine (muB R5.mx LC.out ((4 : Int), [1, UInt8.ofNat cc, UInt8.ofNat (nn / 256), UInt8.ofNat (nn % 256)]) ⟨by omega, by omega⟩ _ 4 4 rfl (OwnB.rb_ o5) (by omega)).mono ?_
                 rw [muT_credit C HCL.out (by have := HNN.out; omega)]
                 rw [if_neg HQ.out, if_neg HQ.out]
                 rintro e w6 ⟨rfl, us6, vs6, k6, g6⟩
                 have S6 := R5.step k6 g6
                 have d6 := S6.cb.at_ (cells4_at (S := B) HCL.out)
                 rw [HBX.out] at d6
                 have f6 := S6.cb.free cc
                 have SM := Lib.hid (S6.put5 HCL.out by_)
                 have LM := Lib.hid (show LimA (upd C cc (chMore (C cc) nn)) from Lim.upd_ LC.out ((LC.out cc HCL.out).more HQ.out))
                 have HSM := Lib.hid (show ∀ i, i < 4 → S i + (upd C cc (chMore (C cc) nn) i).credit = 1024 + upd B cc by_ i from fun i hi => by
                   have h1 := HS.out i hi
                   by_cases e : i = cc
                   · subst e; rw [upd_same, upd_same, ← HBY.out, ← HBX.out]; simp only [chMore]; omega
                   · rw [upd_ne _ _ _ e, upd_ne _ _ _ e]; exact h1)
                 have HBM := Lib.hid (show ∀ i, i < 4 → upd B cc by_ i ≤ 1023 * (k + 1) from fun i hi => by
                   have h1 := HBB.out i hi
                   have h2 := HNN.out
                   by_cases e : i = cc
                   · subst e; rw [upd_same, ← HBY.out, ← HBX.out]; omega
                   · rw [upd_ne _ _ _ e]; omega)
                 clear k6 g6 R5 o5 S6)
              | (go_at_call 31
                 refine (muout_any _ _ _ _ _ _ SM.out.mx LM.out).mono ?_
                 rintro e w7 ⟨A7, n7, c7, us7, vs7, rfl, hn7, o7⟩
                 have SN := Lib.hid (SM.out.step o7.mx o7.mg)
                 have FN := Lib.hid o7.fi
                 have GS4 := Lib.hid (SM.out.cs.lt)
                 have N7 := Lib.hid hn7
                 have F7 := Lib.hid (show n7 ≤ 9223372036854775807 from by have h1 := outM_len LM.out 4 (Nat.le_refl _); rw [hn7] at h1; omega)
                 clear o7 hn7))
            have SENT := Lib.hid (fun i (hi : i < 4) => outM_sent 4 (Nat.le_refl _) (upd C cc (chMore (C cc) nn)) i hi)
            have CHN := Lib.hid (fun f (hf : f ∈ (outM 4 (upd C cc (chMore (C cc) nn))).1) => outM_chan 4 (upd C cc (chMore (C cc) nn)) hf)
            have LO := Lib.hid LM.out.out
            generalize (outM 4 (upd C cc (chMore (C cc) nn))).1 = F at *
            generalize (outM 4 (upd C cc (chMore (C cc) nn))).2 = CO at *
            generalize (upd C cc (chMore (C cc) nn)) = CM at *
            have hf7 := F7.out
            go_loopw [71] (fun s71 wr => RmIn w w2.heap.size w3.heap.size (w3.heap.size + 1) (w6.setCell ⟨w3.heap.size + 1, cc, none⟩ (.int .i64 (by_ : Int))).heap.size w7.heap.size n7 us7 vs7 CO S (upd B cc by_) (.slice A7 n7 c7) F s71 wr) (fun s71 _ => n7 - (intOf s71).toNat)
            case atStart => exact ⟨0, S, rfl, Nat.zero_le _, SN.out, FN.out, fun i _ => rfl⟩
            case round =>
              obtain ⟨j, S', rfl, hj, hR, hF, hS'⟩ := hrel
              by_cases hjl : j < n7
              · obtain ⟨A7', c7', e7, rf7⟩ := hF.rf
                rw [N7.out] at e7
                injection e7 with e7 _ e7c
                subst e7 e7c
                obtain ⟨b7, off7, rfl, -⟩ := rf7.open_ (by rw [N7.out]; omega)
                obtain ⟨f, hf⟩ : ∃ f, F[j]? = some f := ⟨_, List.getElem?_eq_getElem (by rw [N7.out]; exact hjl)⟩
                obtain ⟨p0, Vf, cf, p1, rb⟩ := rf7.here hf
                have htk : F.take (j + 1) = F.take j ++ [f] := by rw [List.take_add_one, hf]; rfl
                have HTK := Lib.hid htk
                have HCH := Lib.hid (CHN.out f (List.mem_of_getElem? hf))
                have hji : (j : Int) < (n7 : Int) := by omega
                have hfbl : f.2.length ≤ 9223372036854775807 := by have h2 := rb.1; have h3 := rb.2.1; unfold maxLen at h3; omega
                have HTL := Lib.hid (fun i => sentOf_take_le i F (j + 1))
                obtain ⟨fc, fb⟩ := f
                simp only at p0 p1 HCH hfbl
                obtain ⟨fl, hfl2⟩ : ∃ x, fb.length = x := ⟨_, rfl⟩
                have HFL := Lib.hid hfl2
                rw [hfl2] at p1 hfbl
                have HF := Lib.hid (hF.made (grown_alloc wr (.cells #[.int .i64 fc, .slice Vf fl cf] 24) none))
                have RA := Lib.hid (hR.made (grown_alloc wr (.cells #[.int .i64 fc, .slice Vf fl cf] 24) none))
                have HSP := Lib.hid hS'
                clear hF hS' rf7 hf htk rb hfl2
                by_cases hf4 : fc < 4
                · obtain ⟨i, hi, rfl⟩ : ∃ i : Nat, i < 4 ∧ fc = (i : Int) := by
                    rcases HCH.out with e | e
                    · exact e
                    · exact absurd (show fc = 4 from e) (by omega)
                  have HI := Lib.hid hi
                  have hii : (i : Int) < 4 := by omega
                  have HSN := Lib.hid (show ∀ z, z < 4 → upd S' i (S' i + fl) z = S z + sentOf z (F.take (j + 1)) from fun z hz => by
                    have e0 := HSP.out z hz
                    rw [HTK.out, sentOf_app]
                    by_cases e : z = i
                    · subst e; rw [upd_same, e0]; simp [sentOf, HFL.out]; omega
                    · rw [upd_ne _ _ _ e, e0]; simp only [sentOf]; rw [if_neg (fun e' => e (by have e' : (i : Int) = (z : Int) := e'; omega))]; omega)
                  have HBD := Lib.hid (show S' i + fl ≤ 100000 from by
                    have e1 := HSN.out i hi
                    rw [upd_same] at e1
                    have e2 := HTL.out i
                    have e3 := SENT.out i hi
                    have e4 := HSM.out i hi
                    have e5 := HBM.out i hi
                    omega)
                  have hw : IntKind.i64.wrap ((S' i : Int) + (fl : Int)) = ((S' i + fl : Nat) : Int) := by have := HBD.out; simp [IntKind.wrap, IntKind.bits, IntKind.signed]; omega
                  obtain ⟨sx, hsx⟩ : ∃ x, S' i = x := ⟨_, rfl⟩
                  rw [hsx] at hw HBD HSN
                  have d5 := RA.out.cs.at_ (cells4_at (S := S') hi)
                  rw [hsx] at d5
                  have f5 := RA.out.cs.free i
                  have CA := CB.new wr 24 [.int .i64 (i : Int), .slice Vf fl cf]
                  have a0 := CA.at_ (i := 0) rfl
                  have a1 := CA.at_ (i := 1) rfl
                  clear hsx hi hf4 CA
                  generalize sx + fl = sy at *
                  go_wp2
                  generalize wr.alloc (.cells #[.int .i64 (i : Int), .slice Vf fl cf] 24) = wa at *
                  have RZ := Lib.hid (show RM w (wa.drew.setCell ⟨w3.heap.size, i, none⟩ (.int .i64 (sy : Int))) w2.heap.size us7 vs7 CO w3.heap.size (upd S' i sy) (w3.heap.size + 1) (upd B cc by_) from (RA.out.made (y := wa.drew) (grown_drew (World.grownBy.refl _ _))).put4 HI.out sy)
                  have FZ := Lib.hid (show FI (wa.drew.setCell ⟨w3.heap.size, i, none⟩ (.int .i64 (sy : Int))) _ _ _ _ from (HF.out.made (w' := wa.drew) (grown_drew (World.grownBy.refl _ _))).put _ GS4.out)
                  go_still_tail 9, (by kernel_rfl)
                  change wpList _ _ _ _ _ wa.drew
                  go_wp2
                  go_roundw
                  case rel => exact ⟨j + 1, _, by go_num, by omega, RZ.out, FZ.out, HSN.out⟩
                  case measure => simp [intOf]; omega
                · have HSN := Lib.hid (show ∀ z, z < 4 → S' z = S z + sentOf z (F.take (j + 1)) from fun z hz => by
                    rw [HTK.out, sentOf_app, HSP.out z hz]
                    simp only [sentOf]
                    rw [if_neg (fun e' => hf4 (by have e' : fc = (z : Int) := e'; omega))]; omega)
                  go_wp2
                  go_roundw
                  case rel => exact ⟨j + 1, _, by go_num, by omega, RA.out, HF.out, HSN.out⟩
                  case measure => simp [intOf]; omega
              · obtain rfl : j = n7 := by omega
                have hS2 : ∀ i, i < 4 → S' i + (CO i).credit = 1024 + (upd B cc by_) i := fun i hi => by
                  have e1 := hS' i hi
                  rw [List.take_of_length_le (by rw [N7.out]; exact Nat.le_refl _)] at e1
                  have e2 := SENT.out i hi
                  have e3 := HSM.out i hi
                  omega
                have HS2 := Lib.hid hS2
                have RX := Lib.hid hR
                clear hS2 hS' hR hF
                go_wp2
                go_loopw [88] (fun s88 wq => RmChk w w2.heap.size w3.heap.size (w3.heap.size + 1) us7 vs7 CO S' (upd B cc by_) s88 wq) (fun s88 _ => 4 - (intOf s88).toNat)
                case atStart => exact ⟨0, rfl, by omega, RX.out⟩
                case round =>
                  obtain ⟨z, rfl, hz, hRz⟩ := hrel
                  by_cases hz4 : z < 4
                  · have hzi : (z : Int) < 4 := by omega
                    have e1 := HS2.out z hz4
                    have e2 := HBM.out z hz4
                    have e3 := (LO.out z hz4).cr
                    have d4 := hRz.cs.at_ (cells4_at (S := S') hz4)
                    have d5 := hRz.cb.at_ (cells4_at (S := (upd B cc by_)) hz4)
                    have RY := Lib.hid hRz
                    have hw : IntKind.i64.wrap ((S' z : Int) - ((upd B cc by_) z : Int)) = (S' z : Int) - ((upd B cc by_) z : Int) := by simp [IntKind.wrap, IntKind.bits, IntKind.signed]; omega
                    have h1 : ¬ (1024 : Int) < (S' z : Int) - ((upd B cc by_) z : Int) := by omega
                    have h2 : ¬ (S' z : Int) < ((upd B cc by_) z : Int) := by omega
                    clear hRz e1 e2 e3 hz4
                    generalize S' z = sx at *
                    generalize (upd B cc by_) z = bx at *
                    go_wp2
                    go_quiet (fail)
                    go_wp2
                    go_roundw
                    case rel => exact ⟨z + 1, by go_num, by omega, RY.out.made (y := wr.drewN nq) ⟨rfl, rfl, rfl, Nat.le_refl _, fun _ _ _ => rfl⟩⟩
                    case measure => simp [intOf]; omega
                  · have RY := Lib.hid hRz
                    clear hRz
                    go_wp2
                    go_roundw
                    case rel => exact ⟨k + 1, us7, vs7, CO, S', (upd B cc by_), by go_num, by omega, RY.out, LO.out, HS2.out, HBM.out⟩
                    case measure => simp [intOf]; omega
      · go_wp2
        go_ret
        exact ⟨rfl, below_of_none hR.gr⟩
end Go.Proofs.Ytajfaplaaafjiaa
