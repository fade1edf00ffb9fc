/- The walk of MuxApart. -/
import Derived.Test.YtajfaplaaafjiaaMxt
namespace Go.Proofs.Ytajfaplaaafjiaa
open Go.RowKit

theorem run_strN {w : World} {B n : Nat} {A : Option Addr} {l : List UInt8} {c : Nat} (hn : l.length = n) (hr : RB w B A l c) : (convert 22 9 (.slice A n c)).run Try.prog w = .ok (.string ⟨l.toArray⟩) w := by
  subst hn
  exact run_strB byteT Try.underlying9 hr
theorem apt_end {D : Nat → Ch} {c : Nat} {data : List UInt8} (hc : c = 1 ∨ c = 2) (hl : (D c).came = data) (he : (D c).ended = true) (hno : ∀ i, i < 4 → i ≠ c → (D i).ended = false) (hd : data.length ≤ 500) :
    (muR D (c : Int) 1000).1 = data ∧ rdK D (c : Int) 1000 = data.length ∧ muE (muR D (c : Int) 1000).2 (c : Int) = true ∧ muE (muR D (c : Int) 1000).2 0 = false ∧ muE (muR D (c : Int) 1000).2 (3 - (c : Int)) = false := by
  have hb : ¬ (badC (c : Int) ∨ (1000 : Int) ≤ 0) := by unfold badC; omega
  have hb1 : ¬ badC (c : Int) := by unfold badC; omega
  have hk : rdK D (c : Int) 1000 = data.length := by
    unfold rdK
    rw [if_neg hb, Int.toNat_natCast, hl]
    show min 1000 data.length = data.length
    omega
  have hm : muR D (c : Int) 1000 = (data, upd D c (chGive (D c) data.length)) := by
    unfold muR
    rw [if_neg hb, hk, Int.toNat_natCast, hl, List.take_length]
  rw [hm, hk]
  refine ⟨rfl, rfl, ?_, ?_, ?_⟩
  · unfold muE
    rw [if_neg hb1, Int.toNat_natCast]
    simp only [upd_same, chGive, he, hl, List.drop_length]
    rfl
  · unfold muE
    rw [if_neg (by unfold badC; omega)]
    show ((upd D c _ 0).ended && _) = false
    rw [upd_ne _ _ _ (by omega), hno 0 (by omega) (by omega)]
    rfl
  · unfold muE
    have e3 : (3 - (c : Int)).toNat = 3 - c := by omega
    rw [if_neg (by unfold badC; omega), e3]
    show ((upd D c _ (3 - c)).ended && _) = false
    rw [upd_ne _ _ _ (by omega), hno (3 - c) (by omega) (by omega)]
    rfl

/-- What stands at the head of each round. -/
def ApRel (w : World) (ma mb n0 : Nat) (s36 : Value) (wr : World) : Prop :=
  ∃ (k : Nat) (us vs : Nat → Value) (C : Nat → Ch), s36 = .int .i64 k ∧ k ≤ n0 ∧ SX w wr ma us vs C mb nilV nilV c0A ∧ LimA C ∧ (∀ i, Fresh (C i)) ∧ (C 1).waits = [] ∧ (C 2).waits = []
def ApIn (w : World) (lo hi ma mb n5 : Nat) (us vs : Nat → Value) (C : Nat → Ch) (v : Value) (Fs : List Fr) (s72 : Value) (wr : World) : Prop :=
  ∃ (j : Nat) (us' vs' : Nat → Value), s72 = .int .i64 j ∧ j ≤ n5 ∧ SF w wr lo hi ma us vs C mb us' vs' (aftT c0A (Fs.take j)) v Fs

set_option maxRecDepth 10000 in
set_option maxHeartbeats 8000000 in
theorem walk_MuxApart (w : World) (A0 : Option Addr) (data : List UInt8) (cap0 : Nat) (h0 : RB w w.heap.size A0 data cap0) (ot : Int) (_ : (Lit.int .i64 ot).wf = true) (A2 : Option Addr) (os : List Op8) (cap2 : Nat) (h2 : RO w w.heap.size A2 os cap2) (_ : ∀ o ∈ os, o.ok) :
    Calls Try.prog 10 #[.slice A0 data.length cap0, .int .i64 ot, .slice A2 os.length cap2] w fun e w' => e = .returned (.bool true) ∧ Below w.heap.size w w' := by
  have H0 := Lib.hid h0
  have H2 := Lib.hid h2
  obtain ⟨nd, hnd⟩ : ∃ m, data.length = m := ⟨_, rfl⟩
  obtain ⟨n0, hn0⟩ : ∃ m, os.length = m := ⟨_, rfl⟩
  have ND := Lib.hid hnd
  have N0 := Lib.hid hn0
  have hdl : nd ≤ 9223372036854775807 := by have := h0.1; have := h0.2.1; unfold maxLen at this; omega
  rw [hn0, hnd]
  clear h0 h2
  have GR := Lib.hid (fun w1 (g1 : w.grownBy w1 none) => great_any w1 A2 os n0 cap2 hn0 ((H2.out.below (below_rw g1 (Nat.le_refl _))).more g1.size))
  cases hgr : great8 os with
  | true =>
    rw [hgr] at GR
    clear hn0 hgr hnd
    go_enter Try.func10, Try.ntmps10
    go_wp2_with (first
      | (go_at_call 19; refine (speaks18_any _).mono ?_; rintro e w1 ⟨rfl, g1⟩; have G1 := Lib.hid g1; clear g1)
      | (go_at_call 20; refine (GR.out _ G1.out).mono ?_; rintro e w2 ⟨rfl, g2⟩; have G2 := Lib.hid (grown_trans' G1.out g2); clear g2))
    go_ret
    exact ⟨rfl, below_of_none G2.out⟩
  | false =>
  rw [hgr] at GR
  by_cases h500 : 500 < nd
  · have hi : (500 : Int) < (nd : Int) := by omega
    clear hn0 hgr hnd h500
    go_enter Try.func10, Try.ntmps10
    go_wp2_with (first
      | (go_at_call 19; refine (speaks18_any _).mono ?_; rintro e w1 ⟨rfl, g1⟩; have G1 := Lib.hid g1; clear g1)
      | (go_at_call 20; refine (GR.out _ G1.out).mono ?_; rintro e w2 ⟨rfl, g2⟩; have G2 := Lib.hid (grown_trans' G1.out g2); clear g2))
    go_ret
    exact ⟨rfl, below_of_none G2.out⟩
  have hi : ¬ (500 : Int) < (nd : Int) := by omega
  have HD := Lib.hid (show data.length ≤ 500 by rw [hnd]; omega)
  have HL := Lib.hid (great8_no hgr)
  have hn80 : n0 ≤ 80 := by rw [← hn0]; exact HL.out.1
  obtain ⟨c1, hc1, hcc⟩ := and_low ot 1 (by omega)
  have hcc : bits .and .i64 ot 1 = (c1 : Int) := hcc
  obtain ⟨c, hc⟩ : ∃ c, c = 1 + c1 := ⟨_, rfl⟩
  have HC := Lib.hid (show c = 1 ∨ c = 2 by omega)
  have hw1 : IntKind.i64.wrap (1 + (c1 : Int)) = (c : Int) := by subst hc; simp [IntKind.wrap, IntKind.bits, IntKind.signed]; omega
  clear hn0 hgr hnd h500 hc hc1
  go_enter Try.func10, Try.ntmps10
  go_wp2_with (first
    | (go_at_call 19; refine (speaks18_any _).mono ?_; rintro e w1 ⟨rfl, g1⟩; have G1 := Lib.hid g1; clear g1)
    | (go_at_call 20; refine (GR.out _ G1.out).mono ?_; rintro e w2 ⟨rfl, g2⟩; have G2 := Lib.hid (grown_trans' G1.out g2); clear g2)
    | (go_at_call 21; have hx := X1; clear hx; refine (mnew_any _).mono ?_; rintro e w4 ⟨rfl, x4, g4⟩; have S0 := Lib.hid (show SX w w4 w2.heap.size nilV nilV c0A w3.heap.size nilV nilV c0A from SX.new X1.out.1 G2.out.size X1.out.2 x4 g4); clear X1 x4 g4)
    | (go_at_call 21; refine (mnew_any _).mono ?_; rintro e w3 ⟨rfl, x3, g3⟩; have X1 := Lib.hid (show MX w3 w2.heap.size w2.heap.size nilV nilV (fun _ => ch0) ∧ w.grownBy w3 none from ⟨x3, grown_trans' G2.out g3⟩); clear x3 g3))
  generalize w2.heap.size = ma at *
  generalize w3.heap.size = mb at *
  go_loopw [36] (fun s36 wr => ApRel w ma mb n0 s36 wr) (fun s36 _ => n0 - (intOf s36).toNat)
  case atStart => exact ⟨0, _, _, _, rfl, Nat.zero_le _, S0.out, LimA.new, fun _ => ⟨rfl, rfl, rfl, rfl⟩, rfl, rfl⟩
  case round =>
    obtain ⟨k, us, vs, C, rfl, hk, hS, hLim, hF, hW1, hW2⟩ := hrel
    by_cases hlt : k < n0
    · obtain ⟨b, off, rfl, hbb, hc⟩ := H2.out.open_ (by rw [N0.out]; omega)
      obtain ⟨o, ho⟩ : ∃ o, os[k]? = some o := ⟨_, List.getElem?_eq_getElem (by rw [N0.out]; exact hlt)⟩
      obtain ⟨V, cV, r0, r1, r2, r3, r4, r5, hr⟩ := hc k o ho
      have be := below_rw hS.gr (Nat.le_refl _)
      have q0 := (be.cell (p := ⟨b, off + k * 6, none⟩) hbb).trans r0
      have q1 := (be.cell (p := ⟨b, off + k * 6 + 1, none⟩) hbb).trans r1
      have q2 := (be.cell (p := ⟨b, off + k * 6 + 2, none⟩) hbb).trans r2
      have q3 := (be.cell (p := ⟨b, off + k * 6 + 3, none⟩) hbb).trans r3
      have q4 := (be.cell (p := ⟨b, off + k * 6 + 4, none⟩) hbb).trans r4
      have q5 := (be.cell (p := ⟨b, off + k * 6 + 5, none⟩) hbb).trans r5
      have hki : (k : Int) < (n0 : Int) := by omega
      have hk80 : k ≤ 80 := by omega
      clear hc r0 r1 r2 r3 r4 r5 hr ho hbb be
      obtain ⟨ok, osd, oc, oz, ofc, ofb⟩ := o
      simp only at q0 q1 q2 q3 q4 q5
      generalize ofb.length = ln at *
      obtain ⟨k1, hk1, hkk⟩ := and_low ok 1 (by omega)
      have hkk : bits .and .i64 ok 1 = (k1 : Int) := hkk
      have SZ := Lib.hid (sizeN_eq oz)
      have RR := Lib.hid (hS.made (grown_alloc wr (.cells #[.int .i64 ok, .int .i64 osd, .int .i64 oc, .int .i64 oz, .int .i64 ofc, .slice V ln cV] 53) none))
      have LC := Lib.hid hLim
      have HF := Lib.hid hF
      have HW := Lib.hid (show (C 1).waits = [] ∧ (C 2).waits = [] from ⟨hW1, hW2⟩)
      clear hS hLim hF hW1 hW2
      by_cases hk0 : k1 = 0
      · subst hk0
        go_wp2_with (first
          | (go_at_call 24; refine (size_any _ ok osd oc oz ofc V ln cV).mono ?_; rintro e w5 ⟨rfl, g5⟩; rw [SZ.out.1]; have R4 := Lib.hid (RR.out.made g5); clear g5)
          | (go_at_call 23; refine (text_any _ (sizeN oz) k (by have := SZ.out.2; omega) (by omega)).mono ?_; rintro e w6 ⟨A5, c5, rfl, o5, g5⟩; have O5 := Lib.hid o5; have R5 := Lib.hid (R4.out.made g5); clear o5 g5)
          | (go_at_call 25
             refine (muA R5.out.mp.a LC.out 0 ⟨by omega, by omega⟩ A5 (textB (sizeN oz) k) (sizeN oz) c5 (textB_len _ _) (OwnB.rb_ O5.out) (by have := SZ.out.2; omega)).mono ?_
             rintro e w7 ⟨rfl, us6, vs6, k6, g6⟩
             have SM := Lib.hid (R5.out.step k6 g6)
             clear k6 g6 R4 R5 O5))
        go_roundw
        case rel => exact ⟨k + 1, us6, vs6, _, by go_num, by omega, SM.out, LC.out.muW _ _, Fresh.muW_ HF.out _ _, by rw [muW_other (by omega)]; exact HW.out.1, by rw [muW_other (by omega)]; exact HW.out.2⟩
        case measure => simp [intOf]; omega
      · obtain rfl : k1 = 1 := by omega
        go_wp2_with (first
          | (go_at_call 24; refine (size_any _ ok osd oc oz ofc V ln cV).mono ?_; rintro e w5 ⟨rfl, g5⟩; rw [SZ.out.1]; have R4 := Lib.hid (RR.out.made g5); clear g5)
          | (go_at_call 23; refine (text_any _ (sizeN oz) k (by have := SZ.out.2; omega) (by omega)).mono ?_; rintro e w6 ⟨A5, c5, rfl, o5, g5⟩; have O5 := Lib.hid o5; have R5 := Lib.hid (R4.out.made g5); clear o5 g5)
          | (go_at_call 25
             refine (muA R5.out.mp.a LC.out 3 ⟨by omega, by omega⟩ A5 (textB (sizeN oz) k) (sizeN oz) c5 (textB_len _ _) (OwnB.rb_ O5.out) (by have := SZ.out.2; omega)).mono ?_
             rintro e w7 ⟨rfl, us6, vs6, k6, g6⟩
             have SM := Lib.hid (R5.out.step k6 g6)
             clear k6 g6 R4 R5 O5))
        go_roundw
        case rel => exact ⟨k + 1, us6, vs6, _, by go_num, by omega, SM.out, LC.out.muW _ _, Fresh.muW_ HF.out _ _, by rw [muW_other (by omega)]; exact HW.out.1, by rw [muW_other (by omega)]; exact HW.out.2⟩
        case measure => simp [intOf]; omega
    · obtain rfl : k = n0 := by omega
      have AP := Lib.hid (apt (c := c) hF (by have := HC.out; omega) (by rcases HC.out with e | e <;> subst e <;> assumption) HD.out)
      have LC := Lib.hid hLim
      have SS := Lib.hid hS
      have HR := Lib.hid ((H0.out.below (below_rw hS.gr (Nat.le_refl _))).more hS.gr.size)
      generalize hA1 : upd C c (chWrite (C c) data) = A1 at *
      generalize hA2 : upd C c (chClose (chWrite (C c) data)) = A2' at *
      have L1 := Lib.hid (show LimA A1 by have := LC.out.muW (c : Int) data; rw [AP.out.wr] at this; exact this)
      have L2 := Lib.hid (show LimA A2' by have := L1.out.muC (c : Int); rw [AP.out.cl] at this; exact this)
      clear hF hS hLim hW1 hW2 hA1 hA2
      go_wp2_with (first
        | (go_at_call 25
           refine (muA SS.out.mp.a LC.out (c : Int) ⟨by omega, by have := HC.out; omega⟩ A0 data nd cap0 ND.out HR.out (by have := HD.out; rw [ND.out] at this; omega)).mono ?_
           rw [AP.out.wr]
           rintro e w5 ⟨rfl, us5, vs5, k5, g5⟩
           have S5 := Lib.hid (SS.out.step k5 g5)
           clear k5 g5)
        | (go_at_call 27
           refine (muclose_any w5 _ _ _ _ _ S5.out.mp.a (c : Int) ⟨by omega, by have := HC.out; omega⟩).mono ?_
           rw [AP.out.cl]
           rintro e w6 ⟨rfl, us6, vs6, k6, g6⟩
           have S6 := Lib.hid (S5.out.step k6 g6)
           clear k6 g6 S5)
        | (go_at_call 31
           refine (muout_any _ _ _ _ _ _ S6.out.mp.a L2.out).mono ?_
           rintro e w7 ⟨A7, n7, c7, us7, vs7, rfl, hn7, o7⟩
           have S7 := Lib.hid (S6.out.out o7)
           have N7 := Lib.hid hn7
           have F7 := Lib.hid (show n7 ≤ 9223372036854775807 from by have h1 := outM_len L2.out 4 (Nat.le_refl _); rw [hn7] at h1; omega)
           clear o7 hn7 S6))
      have FB := Lib.hid (fun f (hf : f ∈ (outM 4 A2').1) => outM_chan 4 A2' hf)
      have FBL := Lib.hid (fun f (hf : f ∈ (outM 4 A2').1) => outM_body 4 A2' hf)
      have OKT := Lib.hid AP.out.ok
      have APN := Lib.hid (And.intro AP.out.len (And.intro AP.out.en AP.out.no))
      clear AP
      generalize (outM 4 A2').1 = Fs at *
      generalize (outM 4 A2').2 = A3 at *
      have hf7 := F7.out
      go_loopw [72] (fun s72 wr => ApIn w w6.heap.size w7.heap.size ma mb n7 us7 vs7 A3 (.slice A7 n7 c7) Fs s72 wr) (fun s72 _ => n7 - (intOf s72).toNat)
      case atStart => exact ⟨0, _, _, rfl, Nat.zero_le _, S7.out⟩
      case round =>
        obtain ⟨j, us', vs', rfl, hj, hSF⟩ := hrel
        by_cases hjl : j < n7
        · obtain ⟨b7, off7, rfl⟩ := hSF.addr (by rw [N7.out]; omega)
          obtain ⟨f, hf⟩ : ∃ f, Fs[j]? = some f := ⟨_, List.getElem?_eq_getElem (by rw [N7.out]; exact hjl)⟩
          obtain ⟨p0, Vf, cf, p1, rb⟩ := hSF.here hf
          have hji : (j : Int) < (n7 : Int) := by omega
          obtain ⟨hok, haf⟩ := okT_at OKT.out hf
          have HCH := Lib.hid (FB.out f (List.mem_of_getElem? hf))
          have HFB := Lib.hid (FBL.out f (List.mem_of_getElem? hf))
          obtain ⟨fc, fb⟩ := f
          simp only at p0 p1
          obtain ⟨fl, hfl2⟩ : ∃ x, fb.length = x := ⟨_, rfl⟩
          have HFL := Lib.hid hfl2
          rw [hfl2] at p1
          have g1 : wr.grownBy (wr.alloc (.cells #[.int .i64 fc, .slice Vf fl cf] 24)) none := grown_alloc _ _ _
          have SA := Lib.hid (hSF.made g1)
          have RBF := Lib.hid ((rb.below (below_rw g1 (Nat.le_refl _))).more g1.size)
          have LJ := Lib.hid (LimA.aft (Fs.take j) lim_c0)
          have HOK := Lib.hid hok
          have HAF := Lib.hid haf
          clear hSF hf rb hfl2 g1 hok haf
          go_wp2_with (first
            | (go_at_call 33
               refine (muB SA.out.sx.mp.b LJ.out (fc, fb) (by have h : (∃ i : Nat, i < 4 ∧ fc = (i : Int)) ∨ fc = 4 := HCH.out; rcases h with ⟨i, hi, e⟩ | e <;> exact ⟨by show _ ≤ fc; omega, by show fc ≤ _; omega⟩) Vf fl cf HFL.out RBF.out (by have := HFB.out; have h := HFL.out; simp only at this; omega)).mono ?_
               rw [HOK.out]
               rintro e w8 ⟨rfl, us8, vs8, k8, g8⟩
               rw [← HAF.out] at k8
               have S8 := Lib.hid (SA.out.step k8 g8)
               clear k8 g8))
          go_roundw
          case rel => exact ⟨j + 1, _, _, by go_num, by omega, S8.out⟩
          case measure => simp [intOf]; omega
        · obtain rfl : j = n7 := by omega
          have hD := hSF
          rw [List.take_of_length_le (by rw [N7.out]; exact Nat.le_refl _)] at hD
          have LD := Lib.hid (LimA.aft Fs lim_c0)
          have PE := Lib.hid (apt_end HC.out APN.out.1 APN.out.2.1 APN.out.2.2 HD.out)
          rw [ND.out] at PE
          have SX0 := hD.sx
          generalize aftT c0A Fs = D at *
          have SX1 := Lib.hid (SX0.made (y := wr.drew) (grown_drew (World.grownBy.refl _ _)))
          have HS0 := Lib.hid (show RB wr.drew w.heap.size A0 data cap0 from H0.out.below (below_rw SX1.out.gr (Nat.le_refl _)))
          have hw3 : IntKind.i64.wrap (3 - (c : Int)) = 3 - (c : Int) := by have := HC.out; simp [IntKind.wrap, IntKind.bits, IntKind.signed]; omega
          clear hD hSF SX0
          go_wp2_with fail
          refine helds_begin (fun x => RB x w.heap.size A0 data cap0) (by kernel_rfl) HS0.out (fun _ => ?_)
          refine helds_take (i := 0) (d := some 81) (v := ?vg_1) (by assumption) rfl rfl (by kernel_rfl) (fun _ _ _ h => h) ?yg_1 ?_; case yg_1 => (refine Or.inl ⟨rfl, fun wx hS => ?_⟩; go_simp; try with_reducible rfl)
          try simp only [Act.put, List.setIfInBounds_toArray, List.set_cons_zero, List.set_cons_succ]
          refine helds_take (i := 1) (d := some 82) (v := ?vg_2) (by assumption) rfl rfl (by kernel_rfl) (fun _ _ _ h => h) ?yg_2 ?_; case yg_2 => (refine Or.inl ⟨rfl, fun wx hS => ?_⟩; go_simp; try with_reducible rfl)
          try simp only [Act.put, List.setIfInBounds_toArray, List.set_cons_zero, List.set_cons_succ]
          refine helds_take (i := 4) (d := some 85) (v := ?vg_3) (by assumption) rfl rfl (by kernel_rfl) (fun _ _ _ h => h) ?yg_3 ?_; case yg_3 => (refine Or.inl ⟨rfl, fun wx hS => ?_⟩; go_simp; try with_reducible rfl)
          try simp only [Act.put, List.setIfInBounds_toArray, List.set_cons_zero, List.set_cons_succ]
          refine helds_take (i := 5) (d := some 86) (v := ?vg_4) (by assumption) rfl rfl (by kernel_rfl) (fun _ _ _ h => h) ?yg_4 ?_; case yg_4 => (refine Or.inl ⟨rfl, fun wx hS => ?_⟩; have q5 := run_strN ND.out hS; go_simp; try with_reducible rfl)
          try simp only [Act.put, List.setIfInBounds_toArray, List.set_cons_zero, List.set_cons_succ]
          refine helds_one (i := 2) rfl (by kernel_rfl) rfl (fun K hK => ?_)
          refine wp_callD (d := some 83) (f := 29) (args := #[.pointer (some ⟨mb, 0, none⟩), .int .i64 (c : Int), .int .i64 1000]) rfl (by first | rfl | go_simp) ?_
          refine (muG SX1.out.mp.b LD.out (c : Int) 1000 ⟨by omega, by have := HC.out; omega⟩ ⟨by omega, by omega⟩).mono ?_
          rintro e wx0 ⟨A8, c8, rfl, o8, us8, vs8, k8, g8, -⟩
          refine ⟨_, rfl, ?_⟩
          rw [PE.out.2.1]
          rw [PE.out.1, PE.out.2.1] at o8
          have SE0 := Lib.hid (SX1.out.swap.step k8 g8).swap
          have hs0x := (show RB _ w.heap.size A0 data cap0 from by assumption).mod g8.1 SX1.out.gr.size (fun i hi hs => by have := (SX1.out.mp.b.lt i hs).1; omega)
          have O8 := Lib.hid (OwnB.rb_ o8)
          clear o8 k8 g8
          refine hK.out _ _ (by assumption) (fun _ => ?_)
          clear hK K
          try simp only [Act.put, List.setIfInBounds_toArray, List.set_cons_zero, List.set_cons_succ]
          refine helds_one (i := 3) rfl (by kernel_rfl) rfl (fun K hK => ?_)
          refine wp_valD (d := some 84) (v := .string ⟨data.toArray⟩) rfl ?_ ?_
          · have k := run_strN ND.out O8.out
            clear hK K
            simp [execOp, go_sem, k]
            done
          refine hK.out _ _ (by assumption) (fun _ => ?_)
          clear hK K
          try simp only [Act.put, List.setIfInBounds_toArray, List.set_cons_zero, List.set_cons_succ]
          refine helds_take (i := 6) (d := some 87) (v := ?vg_5) (by assumption) rfl rfl (by kernel_rfl) (fun _ _ _ h => h) ?yg_5 ?_; case yg_5 => (refine Or.inl ⟨rfl, fun wx hS => ?_⟩; go_simp; try with_reducible rfl)
          try simp only [Act.put, List.setIfInBounds_toArray, List.set_cons_zero, List.set_cons_succ]
          refine helds_take (i := 7) (d := some 88) (v := ?vg_6) (by assumption) rfl rfl (by kernel_rfl) (fun _ _ _ h => h) ?yg_6 ?_; case yg_6 => (refine Or.inl ⟨rfl, fun wx hS => ?_⟩; go_simp; try with_reducible rfl)
          try simp only [Act.put, List.setIfInBounds_toArray, List.set_cons_zero, List.set_cons_succ]
          refine helds_take (i := 8) (d := some 89) (v := ?vg_7) (by assumption) rfl rfl (by kernel_rfl) (fun _ _ _ h => h) ?yg_7 ?_; case yg_7 => (refine Or.inl ⟨rfl, fun wx hS => ?_⟩; go_simp; try with_reducible rfl)
          try simp only [Act.put, List.setIfInBounds_toArray, List.set_cons_zero, List.set_cons_succ]
          refine helds_take (i := 9) (d := some 90) (v := ?vg_8) (by assumption) rfl rfl (by kernel_rfl) (fun _ _ _ h => h) ?yg_8 ?_; case yg_8 => (refine Or.inl ⟨rfl, fun wx hS => ?_⟩; go_simp; try with_reducible rfl)
          try simp only [Act.put, List.setIfInBounds_toArray, List.set_cons_zero, List.set_cons_succ]
          refine helds_one (i := 10) rfl (by kernel_rfl) rfl (fun K hK => ?_)
          refine wp_callD (d := some 91) (f := 37) (args := #[.pointer (some ⟨mb, 0, none⟩), .int .i64 (c : Int)]) rfl (by first | rfl | go_simp) ?_
          refine (muended_any wx0 _ _ _ _ _ SE0.out.mp.b (c : Int) ⟨by have := HC.out; omega, by have := HC.out; omega⟩).mono ?_
          rintro e wxA ⟨rfl, dA⟩
          refine ⟨_, rfl, ?_⟩
          have SEA := Lib.hid (SE0.out.made (dA.made none))
          have hsA := (show RB wx0 w.heap.size A0 data cap0 from by assumption).mod (Mod.made (S := fun _ => False) (dA.made none)) SE0.out.gr.size (fun _ _ h => h)
          rw [PE.out.2.2.1]
          clear dA
          refine hK.out _ _ (by assumption) (fun _ => ?_)
          clear hK K
          try simp only [Act.put, List.setIfInBounds_toArray, List.set_cons_zero, List.set_cons_succ]
          refine helds_take (i := 11) (d := some 92) (v := ?vg_9) (by assumption) rfl rfl (by kernel_rfl) (fun _ _ _ h => h) ?yg_9 ?_; case yg_9 => (refine Or.inl ⟨rfl, fun wx hS => ?_⟩; go_simp; try with_reducible rfl)
          try simp only [Act.put, List.setIfInBounds_toArray, List.set_cons_zero, List.set_cons_succ]
          refine helds_take (i := 12) (d := some 93) (v := ?vg_10) (by assumption) rfl rfl (by kernel_rfl) (fun _ _ _ h => h) ?yg_10 ?_; case yg_10 => (refine Or.inl ⟨rfl, fun wx hS => ?_⟩; go_simp; try with_reducible rfl)
          try simp only [Act.put, List.setIfInBounds_toArray, List.set_cons_zero, List.set_cons_succ]
          refine helds_take (i := 13) (d := some 94) (v := ?vg_11) (by assumption) rfl rfl (by kernel_rfl) (fun _ _ _ h => h) ?yg_11 ?_; case yg_11 => (refine Or.inl ⟨rfl, fun wx hS => ?_⟩; go_simp; try with_reducible rfl)
          try simp only [Act.put, List.setIfInBounds_toArray, List.set_cons_zero, List.set_cons_succ]
          refine helds_one (i := 14) rfl (by kernel_rfl) rfl (fun K hK => ?_)
          refine wp_callD (d := some 95) (f := 37) (args := #[.pointer (some ⟨mb, 0, none⟩), .int .i64 0]) rfl (by first | rfl | go_simp) ?_
          refine (muended_any wxA _ _ _ _ _ SEA.out.mp.b 0 ⟨by have := HC.out; omega, by have := HC.out; omega⟩).mono ?_
          rintro e wxB ⟨rfl, dB⟩
          refine ⟨_, rfl, ?_⟩
          have SEB := Lib.hid (SEA.out.made (dB.made none))
          have hsB := (show RB wxA w.heap.size A0 data cap0 from by assumption).mod (Mod.made (S := fun _ => False) (dB.made none)) SEA.out.gr.size (fun _ _ h => h)
          rw [PE.out.2.2.2.1]
          clear dB
          refine hK.out _ _ (by assumption) (fun _ => ?_)
          clear hK K
          try simp only [Act.put, List.setIfInBounds_toArray, List.set_cons_zero, List.set_cons_succ]
          refine helds_take (i := 15) (d := some 96) (v := ?vg_12) (by assumption) rfl rfl (by kernel_rfl) (fun _ _ _ h => h) ?yg_12 ?_; case yg_12 => (refine Or.inl ⟨rfl, fun wx hS => ?_⟩; go_simp; try with_reducible rfl)
          try simp only [Act.put, List.setIfInBounds_toArray, List.set_cons_zero, List.set_cons_succ]
          refine helds_take (i := 16) (d := some 97) (v := ?vg_13) (by assumption) rfl rfl (by kernel_rfl) (fun _ _ _ h => h) ?yg_13 ?_; case yg_13 => (refine Or.inl ⟨rfl, fun wx hS => ?_⟩; go_simp; try with_reducible rfl)
          try simp only [Act.put, List.setIfInBounds_toArray, List.set_cons_zero, List.set_cons_succ]
          refine helds_take (i := 17) (d := some 98) (v := ?vg_14) (by assumption) rfl rfl (by kernel_rfl) (fun _ _ _ h => h) ?yg_14 ?_; case yg_14 => (refine Or.inl ⟨rfl, fun wx hS => ?_⟩; go_simp; try with_reducible rfl)
          try simp only [Act.put, List.setIfInBounds_toArray, List.set_cons_zero, List.set_cons_succ]
          refine helds_take (i := 18) (d := some 99) (v := ?vg_15) (by assumption) rfl rfl (by kernel_rfl) (fun _ _ _ h => h) ?yg_15 ?_; case yg_15 => (refine Or.inl ⟨rfl, fun wx hS => ?_⟩; go_simp; try with_reducible rfl)
          try simp only [Act.put, List.setIfInBounds_toArray, List.set_cons_zero, List.set_cons_succ]
          refine helds_take (i := 19) (d := some 100) (v := ?vg_16) (by assumption) rfl rfl (by kernel_rfl) (fun _ _ _ h => h) ?yg_16 ?_; case yg_16 => (refine Or.inl ⟨rfl, fun wx hS => ?_⟩; go_simp; try with_reducible rfl)
          try simp only [Act.put, List.setIfInBounds_toArray, List.set_cons_zero, List.set_cons_succ]
          refine helds_take (i := 20) (d := some 101) (v := ?vg_17) (by assumption) rfl rfl (by kernel_rfl) (fun _ _ _ h => h) ?yg_17 ?_; case yg_17 => (refine Or.inl ⟨rfl, fun wx hS => ?_⟩; go_simp; try with_reducible rfl)
          try simp only [Act.put, List.setIfInBounds_toArray, List.set_cons_zero, List.set_cons_succ]
          refine helds_one (i := 21) rfl (by kernel_rfl) rfl (fun K hK => ?_)
          refine wp_callD (d := some 102) (f := 37) (args := #[.pointer (some ⟨mb, 0, none⟩), .int .i64 (3 - (c : Int))]) rfl (by first | rfl | go_simp) ?_
          refine (muended_any wxB _ _ _ _ _ SEB.out.mp.b (3 - (c : Int)) ⟨by have := HC.out; omega, by have := HC.out; omega⟩).mono ?_
          rintro e wxC ⟨rfl, dC⟩
          refine ⟨_, rfl, ?_⟩
          have SEC := Lib.hid (SEB.out.made (dC.made none))
          have hsC := (show RB wxB w.heap.size A0 data cap0 from by assumption).mod (Mod.made (S := fun _ => False) (dC.made none)) SEB.out.gr.size (fun _ _ h => h)
          rw [PE.out.2.2.2.2]
          clear dC
          refine hK.out _ _ (by assumption) (fun _ => ?_)
          clear hK K
          try simp only [Act.put, List.setIfInBounds_toArray, List.set_cons_zero, List.set_cons_succ]
          refine helds_take (i := 22) (d := some 103) (v := ?vg_18) (by assumption) rfl rfl (by kernel_rfl) (fun _ _ _ h => h) ?yg_18 ?_; case yg_18 => (refine Or.inl ⟨rfl, fun wx hS => ?_⟩; go_simp; try with_reducible rfl)
          try simp only [Act.put, List.setIfInBounds_toArray, List.set_cons_zero, List.set_cons_succ]
          refine helds_take (i := 23) (d := some 104) (v := ?vg_19) (by assumption) rfl rfl (by kernel_rfl) (fun _ _ _ h => h) ?yg_19 ?_; case yg_19 => (refine Or.inl ⟨rfl, fun wx hS => ?_⟩; go_simp; try with_reducible rfl)
          try simp only [Act.put, List.setIfInBounds_toArray, List.set_cons_zero, List.set_cons_succ]
          refine helds_take (i := 24) (d := some 6) (v := ?vg_20) (by assumption) rfl rfl (by kernel_rfl) (fun _ _ _ h => h) ?yg_20 ?_; case yg_20 => (refine Or.inl ⟨rfl, fun wx hS => ?_⟩; go_simp; try with_reducible rfl)
          try simp only [Act.put, List.setIfInBounds_toArray, List.set_cons_zero, List.set_cons_succ]
          refine held_end (by kernel_rfl) ?_ _
          go_wp2
          go_ret
          exact ⟨rfl, below_of_none SEC.out.gr⟩
end Go.Proofs.Ytajfaplaaafjiaa
