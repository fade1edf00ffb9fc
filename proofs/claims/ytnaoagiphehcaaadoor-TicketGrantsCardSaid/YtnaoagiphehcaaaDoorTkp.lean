/- The walks of the document's Read, ReadAuth, ReadGrant. -/
import Derived.Test.YtnaoagiphehcaaaDoorTko
import Derived.Test.YtnaoagiphehcaaaDoorTkj
import Derived.Test.YtnaoagiphehcaaaDoorTkz
import Derived.Test.YtnaoagiphehcaaaDoorInl
namespace Go.Proofs.YtnaoagiphehcaaaDoor
open Go.RowKit

theorem valuesOf_lens {l : List UInt8} {ts : List Int} {vs : List (List UInt8)} (h : valuesOf l ts = (vs, 0)) : vs.length = ts.length ∧ ∀ v ∈ vs, v.length ≤ l.length :=
  ⟨by have := valuesOf_length (l := l) (ts := ts) (by rw [h]); rw [h] at this; exact this, fun v hv => valuesOf_le (l := l) (ts := ts) (by rw [h]; exact hv)⟩
theorem RB.kept2 {w w' : World} {A : Option Addr} {l : List UInt8} {cap : Nat} (h : RB w w.heap.size A l cap) (hg : w.grownBy w' none) : RB w' w'.heap.size A l cap := (h.kept hg (Nat.le_refl _)).more hg.size
/-- What the operations of the drawn region yield. -/
def RkaF (wk : World) (bV oV cV : Nat) (V0 : Option Addr) (m0 c0 : Nat) (v0 : List UInt8) (T1 : Int) (n2 : Nat) (Ky : List UInt8) (RES : List Value) : Nat → Value → World → Prop
  | 0, v, _ => v = .slice (some ⟨bV, oV, none⟩) 4 cV
  | 1, v, _ => v = .pointer (some ⟨bV, oV, none⟩)
  | 2, v, _ => v = .slice V0 m0 c0
  | 3, v, _ => v = .string (ba v0)
  | 4, v, _ => v = .int .i64 T1
  | 5, v, _ => v = .int .u64 (n2 : Int)
  | 6, v, _ => v = .agg (bcells Ky).toArray
  | 7, v, _ => v = .agg RES.toArray
  | 8, v, _ => v = .pointer (some ⟨wk.drew.heap.size, 0, none⟩)
  | 9, _, x => CB x wk.drew.heap.size 41 RES
  | _, _, _ => True
theorem RkaF.next {wk : World} {bV oV cV : Nat} {V0 : Option Addr} {m0 c0 : Nat} {v0 : List UInt8} {T1 : Int} {n2 : Nat} {Ky : List UInt8} {RES : List Value} : ∀ (j : Nat) (v : Value) (x y : World), Wr1 wk.drew.heap.size 41 RES x y → RkaF wk bV oV cV V0 m0 c0 v0 T1 n2 Ky RES j v x → RkaF wk bV oV cV V0 m0 c0 v0 T1 n2 Ky RES j v y
  | 0, _, _, _, _, h => h
  | 1, _, _, _, _, h => h
  | 2, _, _, _, _, h => h
  | 3, _, _, _, _, h => h
  | 4, _, _, _, _, h => h
  | 5, _, _, _, _, h => h
  | 6, _, _, _, _, h => h
  | 7, _, _, _, _, h => h
  | 8, _, _, _, _, h => h
  | 9, _, _, _, hg, h => CB.wr1 hg h
  | _ + 10, _, _, _, _, _ => by simp [RkaF]

set_option maxRecDepth 10000 in
set_option maxHeartbeats 4000000 in
theorem refaread_any (n cap : Nat) (A : Option Addr) (l : List UInt8) (w : World) (hn : l.length = n) (hb : n ≤ 10000) (h : RB w w.heap.size A l cap) :
    Calls Tryd.prog 24 #[.slice A n cap] w fun e w' => Rd w (aReads l) (aMade (aVals l)) aZero e w' := by
  have HN := Lib.hid hn
  have HB := Lib.hid hb
  have GA := Lib.hid (grown_alloc w (.cells aZero.toArray 41) none)
  have BA := Lib.hid (CB.new w 41 aZero)
  have RA := Lib.hid ((h.alloc (Nat.le_refl _) (.cells aZero.toArray 41)).more (by rw [World.size_alloc]; omega : w.heap.size ≤ (w.alloc (.cells aZero.toArray 41)).heap.size))
  have HTG := Lib.hid (show tagsOf 11 4 = [11, 12, 13, 14] by decide)
  obtain ⟨vs, e0, hv⟩ : ∃ vs e0, valuesOf l [11, 12, 13, 14] = (vs, e0) := ⟨_, _, rfl⟩
  by_cases he : e0 = 0
  · subst he
    obtain ⟨hvl, hvm⟩ := valuesOf_lens hv
    obtain ⟨v0, v1, v2, v3, rfl⟩ := four hvl
    have HRV := Lib.hid hv
    have HRD := Lib.hid (aReads_doc hv)
    have HMD := Lib.hid (show aVals l = [v0, v1, v2, v3] by rw [aVals, hv])
    obtain ⟨m0, hm0⟩ : ∃ m, v0.length = m := ⟨_, rfl⟩
    have HM0 := Lib.hid hm0
    have HZ0 := Lib.hid (show m0 ≤ 10000 by have := hvm v0 (by simp); omega)
    obtain ⟨m1, hm1⟩ : ∃ m, v1.length = m := ⟨_, rfl⟩
    have HM1 := Lib.hid hm1
    have HZ1 := Lib.hid (show m1 ≤ 10000 by have := hvm v1 (by simp); omega)
    obtain ⟨m2, hm2⟩ : ∃ m, v2.length = m := ⟨_, rfl⟩
    have HM2 := Lib.hid hm2
    have HZ2 := Lib.hid (show m2 ≤ 10000 by have := hvm v2 (by simp); omega)
    obtain ⟨m3, hm3⟩ : ∃ m, v3.length = m := ⟨_, rfl⟩
    have HM3 := Lib.hid hm3
    have HZ3 := Lib.hid (show m3 ≤ 10000 by have := hvm v3 (by simp); omega)
    obtain ⟨n1, hn1⟩ : ∃ m, (readOf v1).1 = m := ⟨_, rfl⟩
    obtain ⟨b1, hb1⟩ : ∃ b, (readOf v1).2 = b := ⟨_, rfl⟩
    obtain ⟨T1, ht1⟩ : ∃ t, timeN n1 = t := ⟨_, rfl⟩
    have HR1 := Lib.hid (show (readOf v1).1 = n1 ∧ (readOf v1).2 = b1 ∧ timeN n1 = T1 from ⟨hn1, hb1, ht1⟩)
    obtain ⟨n2, hn2⟩ : ∃ m, (readOf v2).1 = m := ⟨_, rfl⟩
    obtain ⟨b2, hb2⟩ : ∃ b, (readOf v2).2 = b := ⟨_, rfl⟩
    obtain ⟨T2, ht2⟩ : ∃ t, timeN n2 = t := ⟨_, rfl⟩
    have HR2 := Lib.hid (show (readOf v2).1 = n2 ∧ (readOf v2).2 = b2 ∧ timeN n2 = T2 from ⟨hn2, hb2, ht2⟩)
    obtain ⟨Ky, hK⟩ : ∃ Ky, keyB v3 = Ky := ⟨_, rfl⟩
    have HKB := Lib.hid hK
    have HKL := Lib.hid (show Ky.length = 16 by rw [← hK]; exact keyB_length _)
    obtain ⟨bk, hbk⟩ : ∃ b, decide (m3 = 16) = b := ⟨_, rfl⟩
    have HBKD := Lib.hid hbk
    obtain ⟨ok, hok⟩ : ∃ b, aOk v0 T1 = b := ⟨_, rfl⟩
    have HOK := Lib.hid hok
    have HVAL := Lib.hid (show aReads l = (b1 && (b2 && (bk && (ok)))) by rw [HRD.out, HM3.out, hbk, hn1, hb1, ht1, hb2, hok])
    obtain ⟨RES, hres⟩ : ∃ RES, acells (ba v0) Ky T1 (n2 : Int) = RES := ⟨_, rfl⟩
    have HRES := Lib.hid hres
    have HRL := Lib.hid (show RES.length = 19 by rw [← hres]; exact acells_length _ _ _ _ HKL.out)
    have HRO := Lib.hid (show ∀ u ∈ RES, u.oneCell' = true by rw [← hres]; exact acellsr_one _ _ _ _)
    have HBD := Lib.hid (show ∀ W, (Instr.build 41 #[(0, .string (ba v0)), (1, .int .i64 T1), (2, .int .u64 (n2 : Int)), (3, .agg (bcells Ky).toArray)]).run Tryd.prog W = .ok (.agg RES.toArray) W from fun W => by rw [← hres]; exact run_buildA _ _ _ _ HKL.out W)
    have HMV := Lib.hid (show ok = true → aMade [v0, v1, v2, v3] = RES from fun h1 => by rw [← hres, ← hK, ← ht1, ← hn1, ← hn2]; exact aMade_doc (by rw [hn1, ht1, hok, h1]))
    clear h hn hb hv hvl hvm hK hbk hok hres hm0 hm1 hm2 hm3 hn1 hb1 ht1 hn2 hb2 ht2
    have HV := Lib.hid (show valuesOf l (tagsOf 11 4) = ([v0, v1, v2, v3], 0) by rw [HTG.out]; have := HMD.out; have h2 := HRV.out; exact h2)
    go_enter Tryd.func24, Tryd.ntmps24
    go_wp2_with (first
      | (go_at_call 63; refine (refVals_any A l cap n 11 4 _ HN.out RA.out (by have := HB.out; omega) (by omega) (by omega)).mono ?_; rw [HV.out]; rintro e w1 ⟨vv, rfl, hs, hb1⟩; obtain ⟨VV, cV, rfl, hrs⟩ := hs; obtain ⟨bV, oV, rfl, hbV, hc⟩ := hrs.open_ (by simp); obtain ⟨V0, c0, q0, r0⟩ := hc 0 (by simp); simp only [List.getElem_cons_zero, Nat.add_zero] at q0 r0; rw [HM0.out] at q0; have HQ0 := Lib.hid q0; have HP0 := Lib.hid r0; obtain ⟨V1, c1, q1, r1⟩ := hc 1 (by simp); simp only [List.getElem_cons_zero, List.getElem_cons_succ] at q1 r1; rw [HM1.out] at q1; have HQ1 := Lib.hid q1; have HP1 := Lib.hid r1; obtain ⟨V2, c2, q2, r2⟩ := hc 2 (by simp); simp only [List.getElem_cons_zero, List.getElem_cons_succ] at q2 r2; rw [HM2.out] at q2; have HQ2 := Lib.hid q2; have HP2 := Lib.hid r2; obtain ⟨V3, c3, q3, r3⟩ := hc 3 (by simp); simp only [List.getElem_cons_zero, List.getElem_cons_succ] at q3 r3; rw [HM3.out] at q3; have HQ3 := Lib.hid q3; have HP3 := Lib.hid r3; have HBV := Lib.hid hbV; have GV := Lib.hid (none_of_below hb1 (Nat.le_refl _)); have G1 := Lib.hid (grown_trans' GA.out GV.out); have B1 := Lib.hid (BA.out.kept GV.out); have TK1 := Lib.hid True.intro; clear hb1 hbV hc hrs r0 r1 r2 r3 )
      | (go_at_call 65; have hx := TK2; clear hx; refine (refNumber_any V2 v2 m2 c2 _ _ HM2.out HP2.out).mono ?_; rw [HR2.out.1, HR2.out.2.1, HR2.out.2.2]; rintro e wx2 ⟨rfl, rfl⟩; have TKE := Lib.hid True.intro; clear TK2)
      | (go_at_call 65; have hx := TK1; clear hx; refine (refNumber_any V1 v1 m1 c1 _ _ HM1.out HP1.out).mono ?_; rw [HR1.out.1, HR1.out.2.1, HR1.out.2.2]; rintro e wx1 ⟨rfl, rfl⟩; have TK2 := Lib.hid True.intro; clear TK1)
      | (go_at_call 64; refine (refKeyT_any m3 c3 V3 v3 _ HM3.out (by have := HZ3.out; omega) HP3.out).mono ?_; rw [HKB.out, HBKD.out]; rintro e w2 ⟨rfl, g2⟩; have G2 := Lib.hid g2; clear g2)
      | refine wpList_allocC zeroAr rfl rfl ?_
      | refine wpList_allocC zeroK rfl rfl ?_
      | (refine wpList_storeC (off := 0) (p := bcells Ky) aggK.hi rfl (.tmp 12) (.tmp 44) rfl (.agg (bcells Ky).toArray) rfl (bcells_one _) (CB.new w2 23 (bcells (zeros 16))) (by rw [bcells_length, HKL.out]) (by rw [bcells_length, zeros_length]; omega) (by first | rfl | go_simp) rfl ?_; intro wk hk1 gk1; rw [over_all _ _ (by rw [bcells_length, bcells_length, HKL.out, zeros_length]; exact Nat.le_refl _)] at hk1; have HCK0 := Lib.hid hk1; have GK := Lib.hid (none_new (grown_trans' G2.out (grown_alloc w2 _ none)) gk1 G2.out.size); have GW := Lib.hid (grown_trans' G1.out GK.out); have BW := Lib.hid (B1.out.kept GK.out); clear hk1 gk1))
    generalize w2.heap.size = gk at *
    have HCK := Lib.hid (show CB wk.drew gk 23 (bcells Ky) from HCK0.out)
    have HBK := Lib.hid (show bV < wk.drew.heap.size from Nat.lt_of_lt_of_le HBV.out GK.out.size)
    have HK0 := Lib.hid (show wk.drew.cell? ⟨bV, oV, none⟩ = some (.slice V0 m0 c0) from ((below_of_none GK.out).cell HBV.out).trans HQ0.out)
    have HS0 := Lib.hid (show RB wk.drew wk.drew.heap.size V0 v0 c0 from HP0.out.kept2 (grown_drew GK.out))
    have HGD := Lib.hid (grown_drew GW.out)
    have HBW := Lib.hid (show CB wk.drew w.heap.size 41 aZero from BW.out)
    refine region_byL (n := 10) (ds := [some 46, some 47, some 48, some 49, some 50, some 51, some 52, some 53, some 14, none]) (Wr1 wk.drew.heap.size 41 RES) (GAl wk.drew 8 wk.drew.heap.size 41 19) (RkaF wk bV oV cV V0 m0 c0 v0 T1 n2 Ky RES) (by kernel_rfl) (by kernel_rfl) rfl (by kernel_rfl) (fun j v x y hg h => RkaF.next j v x y hg h) (GAl.start _ _ _ _ _) ⟨⟨⟨⟨⟨⟨⟨⟨⟨⟨trivial, ?_⟩, ?_⟩, ?_⟩, ?_⟩, ?_⟩, ?_⟩, ?_⟩, ?_⟩, ?_⟩, ?_⟩ ?_
    · refine Inv.dutyL_plain rfl rfl (fun L vs a x hL hG dep up val ev out K hK => ?_)
      have hW := hG.1
      have e4 : a.eval (.tmp 4) = .slice (some ⟨bV, oV, none⟩) 4 cV := (out 4 (by kernel_rfl)).trans rfl
      refine Inv.wp_value (v := .slice (some ⟨bV, oV, none⟩) 4 cV) ?_ (hK.out _ _ (Wr1.refl x) (hG.keep (by decide)) rfl)
      clear hK K dep up val ev out hG hL
      generalize a.eval = ρ at *
      (simp [execOp, go_sem, *]; done)
    · refine Inv.dutyL_plain rfl rfl (fun L vs a x hL hG dep up val ev out K hK => ?_)
      have hW := hG.1
      have ek : ∀ u, a.eval (.const u) = u := fun _ => rfl
      have L46 := dep 0 (by kernel_rfl)
      have e46 : a.eval (.tmp 46) = .slice (some ⟨bV, oV, none⟩) 4 cV := (ev 0 46 L46 (by kernel_rfl)).trans (val 0 L46)
      refine Inv.wp_value (v := .pointer (some ⟨bV, oV, none⟩)) ?_ (hK.out _ _ (Wr1.refl x) (hG.keep (by decide)) rfl)
      clear hK K dep up val ev out hG hL
      generalize a.eval = ρ at *
      (simp [execOp, go_sem, *]; done)
    · refine Inv.dutyL_plain rfl rfl (fun L vs a x hL hG dep up val ev out K hK => ?_)
      have hW := hG.1
      have L47 := dep 1 (by kernel_rfl)
      have e47 : a.eval (.tmp 47) = .pointer (some ⟨bV, oV, none⟩) := (ev 1 47 L47 (by kernel_rfl)).trans (val 1 L47)
      have hcell : x.cell? ⟨bV, oV, none⟩ = some (.slice V0 m0 c0) := (hW.cell HBK.out).trans HK0.out
      refine Inv.wp_value (v := .slice V0 m0 c0) ?_ (hK.out _ _ (Wr1.refl x) (hG.keep (by decide)) rfl)
      clear hK K dep up val ev out hG hL
      generalize a.eval = ρ at *
      (simp [execOp, go_sem, *]; done)
    · refine Inv.dutyL_plain rfl rfl (fun L vs a x hL hG dep up val ev out K hK => ?_)
      have hW := hG.1
      have L48 := dep 2 (by kernel_rfl)
      have e48 : a.eval (.tmp 48) = .slice V0 m0 c0 := (ev 2 48 L48 (by kernel_rfl)).trans (val 2 L48)
      have s1 := run_strB byteT Tryd.underlying9 (HS0.out.below hW)
      rw [HM0.out] at s1
      exact wp_convV (.tmp 48) rfl e48 s1 (hK.out _ _ (Wr1.refl x) (hG.keep (by decide)) rfl)
    · refine Inv.dutyL_plain rfl rfl (fun L vs a x hL hG dep up val ev out K hK => ?_)
      have hW := hG.1
      have e7 : a.eval (.tmp 7) = .int .i64 T1 := (out 7 (by kernel_rfl)).trans rfl
      refine Inv.wp_value (v := .int .i64 T1) ?_ (hK.out _ _ (Wr1.refl x) (hG.keep (by decide)) rfl)
      clear hK K dep up val ev out hG hL
      generalize a.eval = ρ at *
      (simp [execOp, go_sem, *]; done)
    · refine Inv.dutyL_plain rfl rfl (fun L vs a x hL hG dep up val ev out K hK => ?_)
      have hW := hG.1
      have e9 : a.eval (.tmp 9) = .int .u64 (n2 : Int) := (out 9 (by kernel_rfl)).trans rfl
      refine Inv.wp_value (v := .int .u64 (n2 : Int)) ?_ (hK.out _ _ (Wr1.refl x) (hG.keep (by decide)) rfl)
      clear hK K dep up val ev out hG hL
      generalize a.eval = ρ at *
      (simp [execOp, go_sem, *]; done)
    · refine Inv.dutyL_plain rfl rfl (fun L vs a x hL hG dep up val ev out K hK => ?_)
      have hW := hG.1
      have e12 : a.eval (.tmp 12) = .pointer (some ⟨gk, 0, none⟩) := (out 12 (by kernel_rfl)).trans rfl
      refine wp_loadC (off := 0) (p := bcells Ky) aggK (.tmp 12) rfl (HCK.out.below hW HCK.out.lt) (by rw [List.drop_zero]; exact List.take_of_length_le (by rw [bcells_length, HKL.out]; exact Nat.le_refl _)) (by rw [bcells_length, HKL.out]; omega) e12 (hK.out _ _ (Wr1.refl x) (hG.keep (by decide)) rfl)
    · refine Inv.dutyL_plain rfl rfl (fun L vs a x hL hG dep up val ev out K hK => ?_)
      have hW := hG.1
      have L49 := dep 3 (by kernel_rfl)
      have e49 : a.eval (.tmp 49) = .string (ba v0) := (ev 3 49 L49 (by kernel_rfl)).trans (val 3 L49)
      have L50 := dep 4 (by kernel_rfl)
      have e50 : a.eval (.tmp 50) = .int .i64 T1 := (ev 4 50 L50 (by kernel_rfl)).trans (val 4 L50)
      have L51 := dep 5 (by kernel_rfl)
      have e51 : a.eval (.tmp 51) = .int .u64 (n2 : Int) := (ev 5 51 L51 (by kernel_rfl)).trans (val 5 L51)
      have L52 := dep 6 (by kernel_rfl)
      have e52 : a.eval (.tmp 52) = .agg (bcells Ky).toArray := (ev 6 52 L52 (by kernel_rfl)).trans (val 6 L52)
      exact wp_buildV rfl (by simp [e49, e50, e51, e52]) (HBD.out x) (hK.out _ _ (Wr1.refl x) (hG.keep (by decide)) rfl)
    · refine Inv.dutyL_plain rfl rfl (fun L vs a x hL hG dep up val ev out K hK => ?_)
      have hW := hG.1
      obtain rfl := hG.none hL
      refine Inv.wp_allocC zeroAr rfl (hK.out _ _ (.inl (grown_alloc _ _ _)) (GAl.made aZero_length) rfl)
    · refine Inv.dutyL_plain rfl rfl (fun L vs a x hL hG dep up val ev out K hK => ?_)
      have hW := hG.1
      have L14 := dep 8 (by kernel_rfl)
      have e14 : a.eval (.tmp 14) = .pointer (some ⟨wk.drew.heap.size, 0, none⟩) := (ev 8 14 L14 (by kernel_rfl)).trans (val 8 L14)
      have L53 := dep 7 (by kernel_rfl)
      have e53 : a.eval (.tmp 53) = .agg RES.toArray := (ev 7 53 L53 (by kernel_rfl)).trans (val 7 L53)
      obtain ⟨cs, hcl, hB⟩ := hG.some L14
      refine wp_storeC (d := none) (off := 0) (p := RES) aggAr.hi rfl (.tmp 14) (.tmp 53) rfl (.agg RES.toArray) rfl HRO.out hB HRL.out (by have := HRL.out; omega) e14 e53 ?_
      intro w' h g
      rw [over_all _ _ (by have := HRL.out; omega)] at h
      exact hK.out _ _ (.inr ⟨g, h⟩) (hG.stored (by decide) L14 HRL.out g h) h
    intro us L w' hL hG hv
    have hC : CB w' wk.drew.heap.size 41 RES := hv 9 (by omega)
    have h8 : us 8 = .pointer (some ⟨wk.drew.heap.size, 0, none⟩) := hv 8 (by omega)
    have hW := hG.1
    simp only [Inv.putAll, Act.put, List.setIfInBounds_toArray, List.set_cons_zero, List.set_cons_succ, Nat.zero_add, Nat.reduceAdd]
    rw [h8]
    have HG := Lib.hid (grown_trans' HGD.out (none_of_below hW (Nat.le_refl _)))
    have HC := Lib.hid hC
    have HBZ := Lib.hid (HBW.out.kept (none_of_below hW (Nat.le_refl _)))
    clear hv hC hG hW hL h8
    generalize wk.drew.heap.size = gm at *
    cases b1 with
    | false =>
      have HBZX := Lib.hid HBZ.out
      have HGX := Lib.hid HG.out
      go_wp2_with (first
        | (refine wpList_storeC (off := 0) (p := aZero) aggAr.hi rfl (.tmp 2) (.tmp 69) rfl _ (by first | rfl | kernel_rfl) (fun u hu => by revert u hu; rw [← List.all_eq_true]; rfl) HBZX.out aZero_length (by rw [aZero_length]; omega) (by first | rfl | go_simp) rfl ?_; intro wz hz gz; rw [over_all _ _ (Nat.le_refl _)] at hz; have GZ := Lib.hid (none_new HGX.out gz (Nat.le_refl _)); have CZ := Lib.hid hz; clear hz gz))
      exact bodyPost_ret (results_C2 rfl _ aggAr CZ.out aZero_length rfl rfl) rfl (Rd.no (by rw [HVAL.out]; simp) GZ.out rfl)
    | true =>
      cases b2 with
      | false =>
        have HBZX := Lib.hid HBZ.out
        have HGX := Lib.hid HG.out
        go_wp2_with (first
          | (refine wpList_storeC (off := 0) (p := aZero) aggAr.hi rfl (.tmp 2) (.tmp 69) rfl _ (by first | rfl | kernel_rfl) (fun u hu => by revert u hu; rw [← List.all_eq_true]; rfl) HBZX.out aZero_length (by rw [aZero_length]; omega) (by first | rfl | go_simp) rfl ?_; intro wz hz gz; rw [over_all _ _ (Nat.le_refl _)] at hz; have GZ := Lib.hid (none_new HGX.out gz (Nat.le_refl _)); have CZ := Lib.hid hz; clear hz gz))
        exact bodyPost_ret (results_C2 rfl _ aggAr CZ.out aZero_length rfl rfl) rfl (Rd.no (by rw [HVAL.out]; simp) GZ.out rfl)
      | true =>
        cases bk with
        | false =>
          have HBZX := Lib.hid HBZ.out
          have HGX := Lib.hid HG.out
          go_wp2_with (first
            | (refine wpList_storeC (off := 0) (p := aZero) aggAr.hi rfl (.tmp 2) (.tmp 69) rfl _ (by first | rfl | kernel_rfl) (fun u hu => by revert u hu; rw [← List.all_eq_true]; rfl) HBZX.out aZero_length (by rw [aZero_length]; omega) (by first | rfl | go_simp) rfl ?_; intro wz hz gz; rw [over_all _ _ (Nat.le_refl _)] at hz; have GZ := Lib.hid (none_new HGX.out gz (Nat.le_refl _)); have CZ := Lib.hid hz; clear hz gz))
          exact bodyPost_ret (results_C2 rfl _ aggAr CZ.out aZero_length rfl rfl) rfl (Rd.no (by rw [HVAL.out]; simp) GZ.out rfl)
        | true =>
          have HC0 := Lib.hid True.intro
          cases ok with
          | false =>
            go_wp2_with (first
              | (have hx := HC0; clear hx; refine wpList_loadCg (off := 0) (p := RES) aggAr (by first | rfl | go_simp) (.tmp 14) rfl HC.out (by rw [List.drop_zero]; exact List.take_of_length_le (by rw [HRL.out]; exact Nat.le_refl _)) (by rw [HRL.out]; omega) (by first | rfl | go_simp) ?_)
              | (go_at_call 68; rw [← HRES.out]; refine (refRightA_any (ba v0) v0 Ky T1 (n2 : Int) _ (ba_data _) HKL.out (by have := HZ0.out; have := HM0.out; omega)).mono ?_; rw [HOK.out, HRES.out]; rintro e wr ⟨rfl, gr⟩; have HBZX := Lib.hid (HBZ.out.kept gr); have HGX := Lib.hid (grown_trans' HG.out gr); have HCX := Lib.hid (HC.out.kept gr); clear HC0 gr)
              | (refine wpList_storeC (off := 0) (p := aZero) aggAr.hi rfl (.tmp 2) (.tmp 69) rfl _ (by first | rfl | kernel_rfl) (fun u hu => by revert u hu; rw [← List.all_eq_true]; rfl) HBZX.out aZero_length (by rw [aZero_length]; omega) (by first | rfl | go_simp) rfl ?_; intro wz hz gz; rw [over_all _ _ (Nat.le_refl _)] at hz; have GZ := Lib.hid (none_new HGX.out gz (Nat.le_refl _)); have CZ := Lib.hid hz; clear hz gz))
            exact bodyPost_ret (results_C2 rfl _ aggAr CZ.out aZero_length rfl rfl) rfl (Rd.no (by rw [HVAL.out]; simp) GZ.out rfl)
          | true =>
            go_wp2_with (first
              | (have hx := HC0; clear hx; refine wpList_loadCg (off := 0) (p := RES) aggAr (by first | rfl | go_simp) (.tmp 14) rfl HC.out (by rw [List.drop_zero]; exact List.take_of_length_le (by rw [HRL.out]; exact Nat.le_refl _)) (by rw [HRL.out]; omega) (by first | rfl | go_simp) ?_)
              | (go_at_call 68; rw [← HRES.out]; refine (refRightA_any (ba v0) v0 Ky T1 (n2 : Int) _ (ba_data _) HKL.out (by have := HZ0.out; have := HM0.out; omega)).mono ?_; rw [HOK.out, HRES.out]; rintro e wr ⟨rfl, gr⟩; have HBZX := Lib.hid (HBZ.out.kept gr); have HGX := Lib.hid (grown_trans' HG.out gr); have HCX := Lib.hid (HC.out.kept gr); clear HC0 gr)
              | refine wpList_loadCg (off := 0) (p := RES) aggAr (by first | rfl | go_simp) (.tmp 14) rfl HCX.out (by rw [List.drop_zero]; exact List.take_of_length_le (by rw [HRL.out]; exact Nat.le_refl _)) (by rw [HRL.out]; omega) (by first | rfl | go_simp) ?_
              | (refine wpList_storeC (off := 0) (p := RES) aggAr.hi rfl (.tmp 2) (.tmp 70) rfl (.agg RES.toArray) rfl HRO.out HBZX.out HRL.out (by rw [aZero_length]; omega) (by first | rfl | go_simp) rfl ?_; intro wz hz gz; rw [over_all _ _ (by rw [HRL.out, aZero_length]; exact Nat.le_refl _)] at hz; have GZ := Lib.hid (none_new HGX.out gz (Nat.le_refl _)); have CZ := Lib.hid hz; clear hz gz))
            exact bodyPost_ret (results_C2 rfl _ aggAr CZ.out HRL.out rfl rfl) rfl (Rd.yes (by rw [HVAL.out]; simp) GZ.out (by rw [HMD.out, HMV.out (by simp)]; rfl))
  · have HE := Lib.hid he
    have HRN := Lib.hid (show aReads l = false by rw [aReads, hv]; simp [he])
    have HV := Lib.hid (show valuesOf l (tagsOf 11 4) = (vs, e0) by rw [HTG.out]; exact hv)
    have he1 : (e0 == 0) = false := by simpa using he
    clear h hn hb hv he
    go_enter Tryd.func24, Tryd.ntmps24
    go_wp2_with (first
      | (go_at_call 63; refine (refVals_any A l cap n 11 4 _ HN.out RA.out (by have := HB.out; omega) (by omega) (by omega)).mono ?_; rw [HV.out]; rintro e w1 ⟨vv, rfl, hs, hb1⟩; rw [he1]; have GV := Lib.hid (none_of_below hb1 (Nat.le_refl _)); have HGX := Lib.hid (grown_trans' GA.out GV.out); have HBZX := Lib.hid (BA.out.kept GV.out); clear hs hb1)
      | refine wpList_allocC zeroAr rfl rfl ?_
      | (refine wpList_storeC (off := 0) (p := aZero) aggAr.hi rfl (.tmp 2) (.tmp 22) rfl _ (by first | rfl | kernel_rfl) (fun u hu => by revert u hu; rw [← List.all_eq_true]; rfl) HBZX.out aZero_length (by rw [aZero_length]; omega) (by first | rfl | go_simp) rfl ?_; intro wz hz gz; rw [over_all _ _ (Nat.le_refl _)] at hz; have GZ := Lib.hid (none_new HGX.out gz (Nat.le_refl _)); have CZ := Lib.hid hz; clear hz gz))
    exact bodyPost_ret (results_C2 rfl _ aggAr CZ.out aZero_length rfl rfl) rfl (Rd.no HRN.out GZ.out rfl)

theorem tOk_spec (lc ls : List UInt8) (st en fl : Int) : tOk lc ls st en fl = (parses lc && (parses ls && (spanOk st en && flagsOk fl))) := by
  unfold tOk
  rfl
set_option maxHeartbeats 1000000 in
theorem refRightT_any (c s : ByteArray) (lc ls k : List UInt8) (st en fl : Int) (w : World) (hc : c.data.toList = lc) (hs : s.data.toList = ls) (hk : k.length = 16) (hlc : lc.length ≤ 10000) (hls : ls.length ≤ 10000) :
    Calls Tryd.prog 56 #[.agg (tcells c s k st en fl).toArray] w fun e w' => e = .returned (.bool (tOk lc ls st en fl)) ∧ w.grownBy w' none := by
  have Hc := Lib.hid hc
  have HLc := Lib.hid hlc
  have Hs := Lib.hid hs
  have HLs := Lib.hid hls
  have B0 := Lib.hid (CB.new w 25 (tcells c s k st en fl))
  have G0 := Lib.hid (grown_alloc w (.cells (tcells c s k st en fl).toArray 25) none)
  have q0 := B0.out.at_ (tcells_c c s k st en fl hk)
  have HQs := Lib.hid (tcells_s c s k st en fl hk)
  have HQst := Lib.hid (tcells_st c s k st en fl hk)
  have HQen := Lib.hid (tcells_en c s k st en fl hk)
  have HQfl := Lib.hid (tcells_fl c s k st en fl hk)
  rw [tOk_spec]
  have TK0 := Lib.hid True.intro
  cases h1 : parses lc with
  | false =>
    have H1 := Lib.hid h1
    clear hc hlc hs hls hk h1
    simp only [Bool.false_and]
    go_enter Tryd.func56, Tryd.ntmps56
    go_wp2_with (first
      | (go_at_call 90; have hx := TK0; clear hx; refine (refNamed_any c lc Hc.out _ HLc.out).mono ?_; rintro e w1 ⟨rfl, g1⟩; rw [H1.out]; have G1 := Lib.hid (grown_trans' G0.out g1); have B1 := Lib.hid (B0.out.kept g1); have TK1 := Lib.hid True.intro; clear g1))
    go_ret
    exact ⟨rfl, G1.out⟩
  | true =>
    have H1 := Lib.hid h1
    clear h1
    cases h2 : parses ls with
    | false =>
      have H2 := Lib.hid h2
      clear hc hlc hs hls hk h2
      simp only [Bool.false_and, Bool.true_and]
      go_enter Tryd.func56, Tryd.ntmps56
      go_wp2_with (first
        | (go_at_call 90; have hx := TK1; clear hx; refine (refNamed_any s ls Hs.out _ HLs.out).mono ?_; rintro e w2 ⟨rfl, g1⟩; rw [H2.out]; have G2 := Lib.hid (grown_trans' G1.out g1); have B2 := Lib.hid (B1.out.kept g1); have TK2 := Lib.hid True.intro; clear g1)
        | (go_at_call 90; have hx := TK0; clear hx; refine (refNamed_any c lc Hc.out _ HLc.out).mono ?_; rintro e w1 ⟨rfl, g1⟩; rw [H1.out]; have G1 := Lib.hid (grown_trans' G0.out g1); have B1 := Lib.hid (B0.out.kept g1); have qs := (B0.out.kept g1).at_ HQs.out; have TK1 := Lib.hid True.intro; clear g1))
      go_ret
      exact ⟨rfl, G2.out⟩
    | true =>
      have H2 := Lib.hid h2
      clear h2
      clear hc hlc hs hls hk
      simp only [Bool.true_and]
      go_enter Tryd.func56, Tryd.ntmps56
      go_wp2_with (first
        | (go_at_call 96; refine (lastsRef_any st en fl _).mono ?_; rintro e wl ⟨rfl, rfl⟩)
        | (go_at_call 90; have hx := TK1; clear hx; refine (refNamed_any s ls Hs.out _ HLs.out).mono ?_; rintro e w2 ⟨rfl, g1⟩; rw [H2.out]; have G2 := Lib.hid (grown_trans' G1.out g1); have B2 := Lib.hid (B1.out.kept g1); have qst := (B1.out.kept g1).at_ HQst.out; have qen := (B1.out.kept g1).at_ HQen.out; have qfl := (B1.out.kept g1).at_ HQfl.out; have TK2 := Lib.hid True.intro; clear g1)
        | (go_at_call 90; have hx := TK0; clear hx; refine (refNamed_any c lc Hc.out _ HLc.out).mono ?_; rintro e w1 ⟨rfl, g1⟩; rw [H1.out]; have G1 := Lib.hid (grown_trans' G0.out g1); have B1 := Lib.hid (B0.out.kept g1); have qs := (B0.out.kept g1).at_ HQs.out; have TK1 := Lib.hid True.intro; clear g1))
      go_ret
      exact ⟨rfl, G2.out⟩

/-- What the operations of the drawn region yield. -/
def RktF (wk : World) (bV oV cV : Nat) (V0 : Option Addr) (m0 c0 : Nat) (v0 : List UInt8) (V1 : Option Addr) (m1 c1 : Nat) (v1 : List UInt8) (T3 : Int) (T4 : Int) (T5 : Int) (Ky : List UInt8) (RES : List Value) : Nat → Value → World → Prop
  | 0, v, _ => v = .slice (some ⟨bV, oV, none⟩) 6 cV
  | 1, v, _ => v = .pointer (some ⟨bV, oV, none⟩)
  | 2, v, _ => v = .slice V0 m0 c0
  | 3, v, _ => v = .string (ba v0)
  | 4, v, _ => v = .slice (some ⟨bV, oV, none⟩) 6 cV
  | 5, v, _ => v = .pointer (some ⟨bV, oV + 1, none⟩)
  | 6, v, _ => v = .slice V1 m1 c1
  | 7, v, _ => v = .string (ba v1)
  | 8, v, _ => v = .agg (bcells Ky).toArray
  | 9, v, _ => v = .int .i64 T3
  | 10, v, _ => v = .int .i64 T4
  | 11, v, _ => v = .int .i64 T5
  | 12, v, _ => v = .agg RES.toArray
  | 13, v, _ => v = .pointer (some ⟨wk.drew.heap.size, 0, none⟩)
  | 14, _, x => CB x wk.drew.heap.size 25 RES
  | _, _, _ => True
theorem RktF.next {wk : World} {bV oV cV : Nat} {V0 : Option Addr} {m0 c0 : Nat} {v0 : List UInt8} {V1 : Option Addr} {m1 c1 : Nat} {v1 : List UInt8} {T3 : Int} {T4 : Int} {T5 : Int} {Ky : List UInt8} {RES : List Value} : ∀ (j : Nat) (v : Value) (x y : World), Wr1 wk.drew.heap.size 25 RES x y → RktF wk bV oV cV V0 m0 c0 v0 V1 m1 c1 v1 T3 T4 T5 Ky RES j v x → RktF wk bV oV cV V0 m0 c0 v0 V1 m1 c1 v1 T3 T4 T5 Ky RES j v y
  | 0, _, _, _, _, h => h
  | 1, _, _, _, _, h => h
  | 2, _, _, _, _, h => h
  | 3, _, _, _, _, h => h
  | 4, _, _, _, _, h => h
  | 5, _, _, _, _, h => h
  | 6, _, _, _, _, h => h
  | 7, _, _, _, _, h => h
  | 8, _, _, _, _, h => h
  | 9, _, _, _, _, h => h
  | 10, _, _, _, _, h => h
  | 11, _, _, _, _, h => h
  | 12, _, _, _, _, h => h
  | 13, _, _, _, _, h => h
  | 14, _, _, _, hg, h => CB.wr1 hg h
  | _ + 15, _, _, _, _, _ => by simp [RktF]

set_option maxRecDepth 10000 in
set_option maxHeartbeats 4000000 in
theorem reftread_any (n cap : Nat) (A : Option Addr) (l : List UInt8) (w : World) (hn : l.length = n) (hb : n ≤ 10000) (h : RB w w.heap.size A l cap) :
    Calls Tryd.prog 20 #[.slice A n cap] w fun e w' => Rd w (tReads l) (tMade (tVals l)) tZero e w' := by
  have HN := Lib.hid hn
  have HB := Lib.hid hb
  have GA := Lib.hid (grown_alloc w (.cells tZero.toArray 25) none)
  have BA := Lib.hid (CB.new w 25 tZero)
  have RA := Lib.hid ((h.alloc (Nat.le_refl _) (.cells tZero.toArray 25)).more (by rw [World.size_alloc]; omega : w.heap.size ≤ (w.alloc (.cells tZero.toArray 25)).heap.size))
  have HTG := Lib.hid (show tagsOf 1 6 = [1, 2, 3, 4, 5, 6] by decide)
  obtain ⟨vs, e0, hv⟩ : ∃ vs e0, valuesOf l [1, 2, 3, 4, 5, 6] = (vs, e0) := ⟨_, _, rfl⟩
  by_cases he : e0 = 0
  · subst he
    obtain ⟨hvl, hvm⟩ := valuesOf_lens hv
    obtain ⟨v0, v1, v2, v3, v4, v5, rfl⟩ := six hvl
    have HRV := Lib.hid hv
    have HRD := Lib.hid (tReads_doc hv)
    have HMD := Lib.hid (show tVals l = [v0, v1, v2, v3, v4, v5] by rw [tVals, hv])
    obtain ⟨m0, hm0⟩ : ∃ m, v0.length = m := ⟨_, rfl⟩
    have HM0 := Lib.hid hm0
    have HZ0 := Lib.hid (show m0 ≤ 10000 by have := hvm v0 (by simp); omega)
    obtain ⟨m1, hm1⟩ : ∃ m, v1.length = m := ⟨_, rfl⟩
    have HM1 := Lib.hid hm1
    have HZ1 := Lib.hid (show m1 ≤ 10000 by have := hvm v1 (by simp); omega)
    obtain ⟨m2, hm2⟩ : ∃ m, v2.length = m := ⟨_, rfl⟩
    have HM2 := Lib.hid hm2
    have HZ2 := Lib.hid (show m2 ≤ 10000 by have := hvm v2 (by simp); omega)
    obtain ⟨m3, hm3⟩ : ∃ m, v3.length = m := ⟨_, rfl⟩
    have HM3 := Lib.hid hm3
    have HZ3 := Lib.hid (show m3 ≤ 10000 by have := hvm v3 (by simp); omega)
    obtain ⟨m4, hm4⟩ : ∃ m, v4.length = m := ⟨_, rfl⟩
    have HM4 := Lib.hid hm4
    have HZ4 := Lib.hid (show m4 ≤ 10000 by have := hvm v4 (by simp); omega)
    obtain ⟨m5, hm5⟩ : ∃ m, v5.length = m := ⟨_, rfl⟩
    have HM5 := Lib.hid hm5
    have HZ5 := Lib.hid (show m5 ≤ 10000 by have := hvm v5 (by simp); omega)
    obtain ⟨n3, hn3⟩ : ∃ m, (readOf v3).1 = m := ⟨_, rfl⟩
    obtain ⟨b3, hb3⟩ : ∃ b, (readOf v3).2 = b := ⟨_, rfl⟩
    obtain ⟨T3, ht3⟩ : ∃ t, timeN n3 = t := ⟨_, rfl⟩
    have HR3 := Lib.hid (show (readOf v3).1 = n3 ∧ (readOf v3).2 = b3 ∧ timeN n3 = T3 from ⟨hn3, hb3, ht3⟩)
    obtain ⟨n4, hn4⟩ : ∃ m, (readOf v4).1 = m := ⟨_, rfl⟩
    obtain ⟨b4, hb4⟩ : ∃ b, (readOf v4).2 = b := ⟨_, rfl⟩
    obtain ⟨T4, ht4⟩ : ∃ t, timeN n4 = t := ⟨_, rfl⟩
    have HR4 := Lib.hid (show (readOf v4).1 = n4 ∧ (readOf v4).2 = b4 ∧ timeN n4 = T4 from ⟨hn4, hb4, ht4⟩)
    obtain ⟨n5, hn5⟩ : ∃ m, (readOf v5).1 = m := ⟨_, rfl⟩
    obtain ⟨b5, hb5⟩ : ∃ b, (readOf v5).2 = b := ⟨_, rfl⟩
    obtain ⟨T5, ht5⟩ : ∃ t, timeN n5 = t := ⟨_, rfl⟩
    have HR5 := Lib.hid (show (readOf v5).1 = n5 ∧ (readOf v5).2 = b5 ∧ timeN n5 = T5 from ⟨hn5, hb5, ht5⟩)
    obtain ⟨Ky, hK⟩ : ∃ Ky, keyB v2 = Ky := ⟨_, rfl⟩
    have HKB := Lib.hid hK
    have HKL := Lib.hid (show Ky.length = 16 by rw [← hK]; exact keyB_length _)
    obtain ⟨bk, hbk⟩ : ∃ b, decide (m2 = 16) = b := ⟨_, rfl⟩
    have HBKD := Lib.hid hbk
    obtain ⟨ok, hok⟩ : ∃ b, tOk v0 v1 T3 T4 T5 = b := ⟨_, rfl⟩
    have HOK := Lib.hid hok
    have HVAL := Lib.hid (show tReads l = (b3 && (b4 && (b5 && (bk && (ok))))) by rw [HRD.out, HM2.out, hbk, hn3, hb3, ht3, hn4, hb4, ht4, hn5, hb5, ht5, hok])
    obtain ⟨RES, hres⟩ : ∃ RES, tcells (ba v0) (ba v1) Ky T3 T4 T5 = RES := ⟨_, rfl⟩
    have HRES := Lib.hid hres
    have HRL := Lib.hid (show RES.length = 21 by rw [← hres]; exact tcells_length _ _ _ _ _ _ HKL.out)
    have HRO := Lib.hid (show ∀ u ∈ RES, u.oneCell' = true by rw [← hres]; exact tcellsr_one _ _ _ _ _ _)
    have HBD := Lib.hid (show ∀ W, (Instr.build 25 #[(0, .string (ba v0)), (1, .string (ba v1)), (2, .agg (bcells Ky).toArray), (3, .int .i64 T3), (4, .int .i64 T4), (5, .int .i64 T5)]).run Tryd.prog W = .ok (.agg RES.toArray) W from fun W => by rw [← hres]; exact run_buildT _ _ _ _ _ _ HKL.out W)
    have HMV := Lib.hid (show ok = true → tMade [v0, v1, v2, v3, v4, v5] = RES from fun h1 => by rw [← hres, ← hK, ← ht3, ← hn3, ← ht4, ← hn4, ← ht5, ← hn5]; exact tMade_doc (by rw [hn3, ht3, hn4, ht4, hn5, ht5, hok, h1]))
    clear h hn hb hv hvl hvm hK hbk hok hres hm0 hm1 hm2 hm3 hm4 hm5 hn3 hb3 ht3 hn4 hb4 ht4 hn5 hb5 ht5
    have HV := Lib.hid (show valuesOf l (tagsOf 1 6) = ([v0, v1, v2, v3, v4, v5], 0) by rw [HTG.out]; have := HMD.out; have h2 := HRV.out; exact h2)
    go_enter Tryd.func20, Tryd.ntmps20
    go_wp2_with (first
      | (go_at_call 63; refine (refVals_any A l cap n 1 6 _ HN.out RA.out (by have := HB.out; omega) (by omega) (by omega)).mono ?_; rw [HV.out]; rintro e w1 ⟨vv, rfl, hs, hb1⟩; obtain ⟨VV, cV, rfl, hrs⟩ := hs; obtain ⟨bV, oV, rfl, hbV, hc⟩ := hrs.open_ (by simp); obtain ⟨V0, c0, q0, r0⟩ := hc 0 (by simp); simp only [List.getElem_cons_zero, Nat.add_zero] at q0 r0; rw [HM0.out] at q0; have HQ0 := Lib.hid q0; have HP0 := Lib.hid r0; obtain ⟨V1, c1, q1, r1⟩ := hc 1 (by simp); simp only [List.getElem_cons_zero, List.getElem_cons_succ] at q1 r1; rw [HM1.out] at q1; have HQ1 := Lib.hid q1; have HP1 := Lib.hid r1; obtain ⟨V2, c2, q2, r2⟩ := hc 2 (by simp); simp only [List.getElem_cons_zero, List.getElem_cons_succ] at q2 r2; rw [HM2.out] at q2; have HQ2 := Lib.hid q2; have HP2 := Lib.hid r2; obtain ⟨V3, c3, q3, r3⟩ := hc 3 (by simp); simp only [List.getElem_cons_zero, List.getElem_cons_succ] at q3 r3; rw [HM3.out] at q3; have HQ3 := Lib.hid q3; have HP3 := Lib.hid r3; obtain ⟨V4, c4, q4, r4⟩ := hc 4 (by simp); simp only [List.getElem_cons_zero, List.getElem_cons_succ] at q4 r4; rw [HM4.out] at q4; have HQ4 := Lib.hid q4; have HP4 := Lib.hid r4; obtain ⟨V5, c5, q5, r5⟩ := hc 5 (by simp); simp only [List.getElem_cons_zero, List.getElem_cons_succ] at q5 r5; rw [HM5.out] at q5; have HQ5 := Lib.hid q5; have HP5 := Lib.hid r5; have HBV := Lib.hid hbV; have GV := Lib.hid (none_of_below hb1 (Nat.le_refl _)); have G1 := Lib.hid (grown_trans' GA.out GV.out); have B1 := Lib.hid (BA.out.kept GV.out); have TK2 := Lib.hid True.intro; clear hb1 hbV hc hrs r0 r1 r2 r3 r4 r5 q0 q1 q3 q4 q5)
      | (go_at_call 65; have hx := TK5; clear hx; refine (refNumber_any V5 v5 m5 c5 _ _ HM5.out (HP5.out.kept2 GK.out)).mono ?_; rw [HR5.out.1, HR5.out.2.1, HR5.out.2.2]; rintro e wx5 ⟨rfl, rfl⟩; clear TK5)
      | (go_at_call 65; have hx := TK4; clear hx; refine (refNumber_any V4 v4 m4 c4 _ _ HM4.out (HP4.out.kept2 GK.out)).mono ?_; rw [HR4.out.1, HR4.out.2.1, HR4.out.2.2]; rintro e wx4 ⟨rfl, rfl⟩; have TK5 := Lib.hid True.intro; clear TK4)
      | (go_at_call 65; have hx := TK3; clear hx; refine (refNumber_any V3 v3 m3 c3 _ _ HM3.out (HP3.out.kept2 GK.out)).mono ?_; rw [HR3.out.1, HR3.out.2.1, HR3.out.2.2]; rintro e wx3 ⟨rfl, rfl⟩; have TK4 := Lib.hid True.intro; clear TK3)
      | (go_at_call 64; refine (refKeyT_any m2 c2 V2 v2 _ HM2.out (by have := HZ2.out; omega) HP2.out).mono ?_; rw [HKB.out, HBKD.out]; rintro e w2 ⟨rfl, g2⟩; have G2 := Lib.hid g2; clear g2)
      | refine wpList_allocC zeroTr rfl rfl ?_
      | refine wpList_allocC zeroK rfl rfl ?_
      | (refine wpList_storeC (off := 0) (p := bcells Ky) aggK.hi rfl (.tmp 6) (.tmp 31) rfl (.agg (bcells Ky).toArray) rfl (bcells_one _) (CB.new w2 23 (bcells (zeros 16))) (by rw [bcells_length, HKL.out]) (by rw [bcells_length, zeros_length]; omega) (by first | rfl | go_simp) rfl ?_; intro wk hk1 gk1; rw [over_all _ _ (by rw [bcells_length, bcells_length, HKL.out, zeros_length]; exact Nat.le_refl _)] at hk1; have HCK0 := Lib.hid hk1; have GK := Lib.hid (none_new (grown_trans' G2.out (grown_alloc w2 _ none)) gk1 G2.out.size); have GW := Lib.hid (grown_trans' G1.out GK.out); have BW := Lib.hid (B1.out.kept GK.out); have q3 := ((below_of_none GK.out).cell HBV.out).trans HQ3.out; have q4 := ((below_of_none GK.out).cell HBV.out).trans HQ4.out; have q5 := ((below_of_none GK.out).cell HBV.out).trans HQ5.out; have TK3 := Lib.hid True.intro; clear hk1 gk1))
    generalize w2.heap.size = gk at *
    have HCK := Lib.hid (show CB wk.drew gk 23 (bcells Ky) from HCK0.out)
    have HBK := Lib.hid (show bV < wk.drew.heap.size from Nat.lt_of_lt_of_le HBV.out GK.out.size)
    have HK0 := Lib.hid (show wk.drew.cell? ⟨bV, oV, none⟩ = some (.slice V0 m0 c0) from ((below_of_none GK.out).cell HBV.out).trans HQ0.out)
    have HS0 := Lib.hid (show RB wk.drew wk.drew.heap.size V0 v0 c0 from HP0.out.kept2 (grown_drew GK.out))
    have HK1 := Lib.hid (show wk.drew.cell? ⟨bV, oV + 1, none⟩ = some (.slice V1 m1 c1) from ((below_of_none GK.out).cell HBV.out).trans HQ1.out)
    have HS1 := Lib.hid (show RB wk.drew wk.drew.heap.size V1 v1 c1 from HP1.out.kept2 (grown_drew GK.out))
    have HGD := Lib.hid (grown_drew GW.out)
    have HBW := Lib.hid (show CB wk.drew w.heap.size 25 tZero from BW.out)
    refine region_byL (n := 15) (ds := [some 57, some 58, some 59, some 60, some 61, some 62, some 63, some 64, some 65, some 66, some 67, some 68, some 69, some 17, none]) (Wr1 wk.drew.heap.size 25 RES) (GAl wk.drew 13 wk.drew.heap.size 25 21) (RktF wk bV oV cV V0 m0 c0 v0 V1 m1 c1 v1 T3 T4 T5 Ky RES) (by kernel_rfl) (by kernel_rfl) rfl (by kernel_rfl) (fun j v x y hg h => RktF.next j v x y hg h) (GAl.start _ _ _ _ _) ⟨⟨⟨⟨⟨⟨⟨⟨⟨⟨⟨⟨⟨⟨⟨trivial, ?_⟩, ?_⟩, ?_⟩, ?_⟩, ?_⟩, ?_⟩, ?_⟩, ?_⟩, ?_⟩, ?_⟩, ?_⟩, ?_⟩, ?_⟩, ?_⟩, ?_⟩ ?_
    · refine Inv.dutyL_plain rfl rfl (fun L vs a x hL hG dep up val ev out K hK => ?_)
      have hW := hG.1
      have e4 : a.eval (.tmp 4) = .slice (some ⟨bV, oV, none⟩) 6 cV := (out 4 (by kernel_rfl)).trans rfl
      refine Inv.wp_value (v := .slice (some ⟨bV, oV, none⟩) 6 cV) ?_ (hK.out _ _ (Wr1.refl x) (hG.keep (by decide)) rfl)
      clear hK K dep up val ev out hG hL
      generalize a.eval = ρ at *
      (simp [execOp, go_sem, *]; done)
    · refine Inv.dutyL_plain rfl rfl (fun L vs a x hL hG dep up val ev out K hK => ?_)
      have hW := hG.1
      have ek : ∀ u, a.eval (.const u) = u := fun _ => rfl
      have L57 := dep 0 (by kernel_rfl)
      have e57 : a.eval (.tmp 57) = .slice (some ⟨bV, oV, none⟩) 6 cV := (ev 0 57 L57 (by kernel_rfl)).trans (val 0 L57)
      refine Inv.wp_value (v := .pointer (some ⟨bV, oV, none⟩)) ?_ (hK.out _ _ (Wr1.refl x) (hG.keep (by decide)) rfl)
      clear hK K dep up val ev out hG hL
      generalize a.eval = ρ at *
      (simp [execOp, go_sem, *]; done)
    · refine Inv.dutyL_plain rfl rfl (fun L vs a x hL hG dep up val ev out K hK => ?_)
      have hW := hG.1
      have L58 := dep 1 (by kernel_rfl)
      have e58 : a.eval (.tmp 58) = .pointer (some ⟨bV, oV, none⟩) := (ev 1 58 L58 (by kernel_rfl)).trans (val 1 L58)
      have hcell : x.cell? ⟨bV, oV, none⟩ = some (.slice V0 m0 c0) := (hW.cell HBK.out).trans HK0.out
      refine Inv.wp_value (v := .slice V0 m0 c0) ?_ (hK.out _ _ (Wr1.refl x) (hG.keep (by decide)) rfl)
      clear hK K dep up val ev out hG hL
      generalize a.eval = ρ at *
      (simp [execOp, go_sem, *]; done)
    · refine Inv.dutyL_plain rfl rfl (fun L vs a x hL hG dep up val ev out K hK => ?_)
      have hW := hG.1
      have L59 := dep 2 (by kernel_rfl)
      have e59 : a.eval (.tmp 59) = .slice V0 m0 c0 := (ev 2 59 L59 (by kernel_rfl)).trans (val 2 L59)
      have s1 := run_strB byteT Tryd.underlying9 (HS0.out.below hW)
      rw [HM0.out] at s1
      exact wp_convV (.tmp 59) rfl e59 s1 (hK.out _ _ (Wr1.refl x) (hG.keep (by decide)) rfl)
    · refine Inv.dutyL_plain rfl rfl (fun L vs a x hL hG dep up val ev out K hK => ?_)
      have hW := hG.1
      have e4 : a.eval (.tmp 4) = .slice (some ⟨bV, oV, none⟩) 6 cV := (out 4 (by kernel_rfl)).trans rfl
      refine Inv.wp_value (v := .slice (some ⟨bV, oV, none⟩) 6 cV) ?_ (hK.out _ _ (Wr1.refl x) (hG.keep (by decide)) rfl)
      clear hK K dep up val ev out hG hL
      generalize a.eval = ρ at *
      (simp [execOp, go_sem, *]; done)
    · refine Inv.dutyL_plain rfl rfl (fun L vs a x hL hG dep up val ev out K hK => ?_)
      have hW := hG.1
      have ek : ∀ u, a.eval (.const u) = u := fun _ => rfl
      have L61 := dep 4 (by kernel_rfl)
      have e61 : a.eval (.tmp 61) = .slice (some ⟨bV, oV, none⟩) 6 cV := (ev 4 61 L61 (by kernel_rfl)).trans (val 4 L61)
      refine Inv.wp_value (v := .pointer (some ⟨bV, oV + 1, none⟩)) ?_ (hK.out _ _ (Wr1.refl x) (hG.keep (by decide)) rfl)
      clear hK K dep up val ev out hG hL
      generalize a.eval = ρ at *
      (simp [execOp, go_sem, *]; done)
    · refine Inv.dutyL_plain rfl rfl (fun L vs a x hL hG dep up val ev out K hK => ?_)
      have hW := hG.1
      have L62 := dep 5 (by kernel_rfl)
      have e62 : a.eval (.tmp 62) = .pointer (some ⟨bV, oV + 1, none⟩) := (ev 5 62 L62 (by kernel_rfl)).trans (val 5 L62)
      have hcell : x.cell? ⟨bV, oV + 1, none⟩ = some (.slice V1 m1 c1) := (hW.cell HBK.out).trans HK1.out
      refine Inv.wp_value (v := .slice V1 m1 c1) ?_ (hK.out _ _ (Wr1.refl x) (hG.keep (by decide)) rfl)
      clear hK K dep up val ev out hG hL
      generalize a.eval = ρ at *
      (simp [execOp, go_sem, *]; done)
    · refine Inv.dutyL_plain rfl rfl (fun L vs a x hL hG dep up val ev out K hK => ?_)
      have hW := hG.1
      have L63 := dep 6 (by kernel_rfl)
      have e63 : a.eval (.tmp 63) = .slice V1 m1 c1 := (ev 6 63 L63 (by kernel_rfl)).trans (val 6 L63)
      have s1 := run_strB byteT Tryd.underlying9 (HS1.out.below hW)
      rw [HM1.out] at s1
      exact wp_convV (.tmp 63) rfl e63 s1 (hK.out _ _ (Wr1.refl x) (hG.keep (by decide)) rfl)
    · refine Inv.dutyL_plain rfl rfl (fun L vs a x hL hG dep up val ev out K hK => ?_)
      have hW := hG.1
      have e6 : a.eval (.tmp 6) = .pointer (some ⟨gk, 0, none⟩) := (out 6 (by kernel_rfl)).trans rfl
      refine wp_loadC (off := 0) (p := bcells Ky) aggK (.tmp 6) rfl (HCK.out.below hW HCK.out.lt) (by rw [List.drop_zero]; exact List.take_of_length_le (by rw [bcells_length, HKL.out]; exact Nat.le_refl _)) (by rw [bcells_length, HKL.out]; omega) e6 (hK.out _ _ (Wr1.refl x) (hG.keep (by decide)) rfl)
    · refine Inv.dutyL_plain rfl rfl (fun L vs a x hL hG dep up val ev out K hK => ?_)
      have hW := hG.1
      have e9 : a.eval (.tmp 9) = .int .i64 T3 := (out 9 (by kernel_rfl)).trans rfl
      refine Inv.wp_value (v := .int .i64 T3) ?_ (hK.out _ _ (Wr1.refl x) (hG.keep (by decide)) rfl)
      clear hK K dep up val ev out hG hL
      generalize a.eval = ρ at *
      (simp [execOp, go_sem, *]; done)
    · refine Inv.dutyL_plain rfl rfl (fun L vs a x hL hG dep up val ev out K hK => ?_)
      have hW := hG.1
      have e12 : a.eval (.tmp 12) = .int .i64 T4 := (out 12 (by kernel_rfl)).trans rfl
      refine Inv.wp_value (v := .int .i64 T4) ?_ (hK.out _ _ (Wr1.refl x) (hG.keep (by decide)) rfl)
      clear hK K dep up val ev out hG hL
      generalize a.eval = ρ at *
      (simp [execOp, go_sem, *]; done)
    · refine Inv.dutyL_plain rfl rfl (fun L vs a x hL hG dep up val ev out K hK => ?_)
      have hW := hG.1
      have e15 : a.eval (.tmp 15) = .int .i64 T5 := (out 15 (by kernel_rfl)).trans rfl
      refine Inv.wp_value (v := .int .i64 T5) ?_ (hK.out _ _ (Wr1.refl x) (hG.keep (by decide)) rfl)
      clear hK K dep up val ev out hG hL
      generalize a.eval = ρ at *
      (simp [execOp, go_sem, *]; done)
    · refine Inv.dutyL_plain rfl rfl (fun L vs a x hL hG dep up val ev out K hK => ?_)
      have hW := hG.1
      have L60 := dep 3 (by kernel_rfl)
      have e60 : a.eval (.tmp 60) = .string (ba v0) := (ev 3 60 L60 (by kernel_rfl)).trans (val 3 L60)
      have L64 := dep 7 (by kernel_rfl)
      have e64 : a.eval (.tmp 64) = .string (ba v1) := (ev 7 64 L64 (by kernel_rfl)).trans (val 7 L64)
      have L65 := dep 8 (by kernel_rfl)
      have e65 : a.eval (.tmp 65) = .agg (bcells Ky).toArray := (ev 8 65 L65 (by kernel_rfl)).trans (val 8 L65)
      have L66 := dep 9 (by kernel_rfl)
      have e66 : a.eval (.tmp 66) = .int .i64 T3 := (ev 9 66 L66 (by kernel_rfl)).trans (val 9 L66)
      have L67 := dep 10 (by kernel_rfl)
      have e67 : a.eval (.tmp 67) = .int .i64 T4 := (ev 10 67 L67 (by kernel_rfl)).trans (val 10 L67)
      have L68 := dep 11 (by kernel_rfl)
      have e68 : a.eval (.tmp 68) = .int .i64 T5 := (ev 11 68 L68 (by kernel_rfl)).trans (val 11 L68)
      exact wp_buildV rfl (by simp [e60, e64, e65, e66, e67, e68]) (HBD.out x) (hK.out _ _ (Wr1.refl x) (hG.keep (by decide)) rfl)
    · refine Inv.dutyL_plain rfl rfl (fun L vs a x hL hG dep up val ev out K hK => ?_)
      have hW := hG.1
      obtain rfl := hG.none hL
      refine Inv.wp_allocC zeroTr rfl (hK.out _ _ (.inl (grown_alloc _ _ _)) (GAl.made tZero_length) rfl)
    · refine Inv.dutyL_plain rfl rfl (fun L vs a x hL hG dep up val ev out K hK => ?_)
      have hW := hG.1
      have L17 := dep 13 (by kernel_rfl)
      have e17 : a.eval (.tmp 17) = .pointer (some ⟨wk.drew.heap.size, 0, none⟩) := (ev 13 17 L17 (by kernel_rfl)).trans (val 13 L17)
      have L69 := dep 12 (by kernel_rfl)
      have e69 : a.eval (.tmp 69) = .agg RES.toArray := (ev 12 69 L69 (by kernel_rfl)).trans (val 12 L69)
      obtain ⟨cs, hcl, hB⟩ := hG.some L17
      refine wp_storeC (d := none) (off := 0) (p := RES) aggTr.hi rfl (.tmp 17) (.tmp 69) rfl (.agg RES.toArray) rfl HRO.out hB HRL.out (by have := HRL.out; omega) e17 e69 ?_
      intro w' h g
      rw [over_all _ _ (by have := HRL.out; omega)] at h
      exact hK.out _ _ (.inr ⟨g, h⟩) (hG.stored (by decide) L17 HRL.out g h) h
    intro us L w' hL hG hv
    have hC : CB w' wk.drew.heap.size 25 RES := hv 14 (by omega)
    have h8 : us 13 = .pointer (some ⟨wk.drew.heap.size, 0, none⟩) := hv 13 (by omega)
    have hW := hG.1
    simp only [Inv.putAll, Act.put, List.setIfInBounds_toArray, List.set_cons_zero, List.set_cons_succ, Nat.zero_add, Nat.reduceAdd]
    rw [h8]
    have HG := Lib.hid (grown_trans' HGD.out (none_of_below hW (Nat.le_refl _)))
    have HC := Lib.hid hC
    have HBZ := Lib.hid (HBW.out.kept (none_of_below hW (Nat.le_refl _)))
    clear hv hC hG hW hL h8
    generalize wk.drew.heap.size = gm at *
    cases bk with
    | false =>
      have HBZX := Lib.hid HBZ.out
      have HGX := Lib.hid HG.out
      go_wp2_with (first
        | (refine wpList_storeC (off := 0) (p := tZero) aggTr.hi rfl (.tmp 2) (.tmp 89) rfl _ (by first | rfl | kernel_rfl) (fun u hu => by revert u hu; rw [← List.all_eq_true]; rfl) HBZX.out tZero_length (by rw [tZero_length]; omega) (by first | rfl | go_simp) rfl ?_; intro wz hz gz; rw [over_all _ _ (Nat.le_refl _)] at hz; have GZ := Lib.hid (none_new HGX.out gz (Nat.le_refl _)); have CZ := Lib.hid hz; clear hz gz))
      exact bodyPost_ret (results_C2 rfl _ aggTr CZ.out tZero_length rfl rfl) rfl (Rd.no (by rw [HVAL.out]; simp) GZ.out rfl)
    | true =>
      cases b3 with
      | false =>
        have HBZX := Lib.hid HBZ.out
        have HGX := Lib.hid HG.out
        go_wp2_with (first
          | (refine wpList_storeC (off := 0) (p := tZero) aggTr.hi rfl (.tmp 2) (.tmp 89) rfl _ (by first | rfl | kernel_rfl) (fun u hu => by revert u hu; rw [← List.all_eq_true]; rfl) HBZX.out tZero_length (by rw [tZero_length]; omega) (by first | rfl | go_simp) rfl ?_; intro wz hz gz; rw [over_all _ _ (Nat.le_refl _)] at hz; have GZ := Lib.hid (none_new HGX.out gz (Nat.le_refl _)); have CZ := Lib.hid hz; clear hz gz))
        exact bodyPost_ret (results_C2 rfl _ aggTr CZ.out tZero_length rfl rfl) rfl (Rd.no (by rw [HVAL.out]; simp) GZ.out rfl)
      | true =>
        cases b4 with
        | false =>
          have HBZX := Lib.hid HBZ.out
          have HGX := Lib.hid HG.out
          go_wp2_with (first
            | (refine wpList_storeC (off := 0) (p := tZero) aggTr.hi rfl (.tmp 2) (.tmp 89) rfl _ (by first | rfl | kernel_rfl) (fun u hu => by revert u hu; rw [← List.all_eq_true]; rfl) HBZX.out tZero_length (by rw [tZero_length]; omega) (by first | rfl | go_simp) rfl ?_; intro wz hz gz; rw [over_all _ _ (Nat.le_refl _)] at hz; have GZ := Lib.hid (none_new HGX.out gz (Nat.le_refl _)); have CZ := Lib.hid hz; clear hz gz))
          exact bodyPost_ret (results_C2 rfl _ aggTr CZ.out tZero_length rfl rfl) rfl (Rd.no (by rw [HVAL.out]; simp) GZ.out rfl)
        | true =>
          cases b5 with
          | false =>
            have HBZX := Lib.hid HBZ.out
            have HGX := Lib.hid HG.out
            go_wp2_with (first
              | (refine wpList_storeC (off := 0) (p := tZero) aggTr.hi rfl (.tmp 2) (.tmp 89) rfl _ (by first | rfl | kernel_rfl) (fun u hu => by revert u hu; rw [← List.all_eq_true]; rfl) HBZX.out tZero_length (by rw [tZero_length]; omega) (by first | rfl | go_simp) rfl ?_; intro wz hz gz; rw [over_all _ _ (Nat.le_refl _)] at hz; have GZ := Lib.hid (none_new HGX.out gz (Nat.le_refl _)); have CZ := Lib.hid hz; clear hz gz))
            exact bodyPost_ret (results_C2 rfl _ aggTr CZ.out tZero_length rfl rfl) rfl (Rd.no (by rw [HVAL.out]; simp) GZ.out rfl)
          | true =>
            have HC0 := Lib.hid True.intro
            cases ok with
            | false =>
              go_wp2_with (first
                | (have hx := HC0; clear hx; refine wpList_loadCg (off := 0) (p := RES) aggTr (by first | rfl | go_simp) (.tmp 17) rfl HC.out (by rw [List.drop_zero]; exact List.take_of_length_le (by rw [HRL.out]; exact Nat.le_refl _)) (by rw [HRL.out]; omega) (by first | rfl | go_simp) ?_)
                | (go_at_call 56; rw [← HRES.out]; refine (refRightT_any (ba v0) (ba v1) v0 v1 Ky T3 T4 T5 _ (ba_data _) (ba_data _) HKL.out (by have := HZ0.out; have := HM0.out; omega) (by have := HZ1.out; have := HM1.out; omega)).mono ?_; rw [HOK.out, HRES.out]; rintro e wr ⟨rfl, gr⟩; have HBZX := Lib.hid (HBZ.out.kept gr); have HGX := Lib.hid (grown_trans' HG.out gr); have HCX := Lib.hid (HC.out.kept gr); clear HC0 gr)
                | (refine wpList_storeC (off := 0) (p := tZero) aggTr.hi rfl (.tmp 2) (.tmp 89) rfl _ (by first | rfl | kernel_rfl) (fun u hu => by revert u hu; rw [← List.all_eq_true]; rfl) HBZX.out tZero_length (by rw [tZero_length]; omega) (by first | rfl | go_simp) rfl ?_; intro wz hz gz; rw [over_all _ _ (Nat.le_refl _)] at hz; have GZ := Lib.hid (none_new HGX.out gz (Nat.le_refl _)); have CZ := Lib.hid hz; clear hz gz))
              exact bodyPost_ret (results_C2 rfl _ aggTr CZ.out tZero_length rfl rfl) rfl (Rd.no (by rw [HVAL.out]; simp) GZ.out rfl)
            | true =>
              go_wp2_with (first
                | (have hx := HC0; clear hx; refine wpList_loadCg (off := 0) (p := RES) aggTr (by first | rfl | go_simp) (.tmp 17) rfl HC.out (by rw [List.drop_zero]; exact List.take_of_length_le (by rw [HRL.out]; exact Nat.le_refl _)) (by rw [HRL.out]; omega) (by first | rfl | go_simp) ?_)
                | (go_at_call 56; rw [← HRES.out]; refine (refRightT_any (ba v0) (ba v1) v0 v1 Ky T3 T4 T5 _ (ba_data _) (ba_data _) HKL.out (by have := HZ0.out; have := HM0.out; omega) (by have := HZ1.out; have := HM1.out; omega)).mono ?_; rw [HOK.out, HRES.out]; rintro e wr ⟨rfl, gr⟩; have HBZX := Lib.hid (HBZ.out.kept gr); have HGX := Lib.hid (grown_trans' HG.out gr); have HCX := Lib.hid (HC.out.kept gr); clear HC0 gr)
                | refine wpList_loadCg (off := 0) (p := RES) aggTr (by first | rfl | go_simp) (.tmp 17) rfl HCX.out (by rw [List.drop_zero]; exact List.take_of_length_le (by rw [HRL.out]; exact Nat.le_refl _)) (by rw [HRL.out]; omega) (by first | rfl | go_simp) ?_
                | (refine wpList_storeC (off := 0) (p := RES) aggTr.hi rfl (.tmp 2) (.tmp 90) rfl (.agg RES.toArray) rfl HRO.out HBZX.out HRL.out (by rw [tZero_length]; omega) (by first | rfl | go_simp) rfl ?_; intro wz hz gz; rw [over_all _ _ (by rw [HRL.out, tZero_length]; exact Nat.le_refl _)] at hz; have GZ := Lib.hid (none_new HGX.out gz (Nat.le_refl _)); have CZ := Lib.hid hz; clear hz gz))
              exact bodyPost_ret (results_C2 rfl _ aggTr CZ.out HRL.out rfl rfl) rfl (Rd.yes (by rw [HVAL.out]; simp) GZ.out (by rw [HMD.out, HMV.out (by simp)]; rfl))
  · have HE := Lib.hid he
    have HRN := Lib.hid (show tReads l = false by rw [tReads, hv]; simp [he])
    have HV := Lib.hid (show valuesOf l (tagsOf 1 6) = (vs, e0) by rw [HTG.out]; exact hv)
    have he1 : (e0 == 0) = false := by simpa using he
    clear h hn hb hv he
    go_enter Tryd.func20, Tryd.ntmps20
    go_wp2_with (first
      | (go_at_call 63; refine (refVals_any A l cap n 1 6 _ HN.out RA.out (by have := HB.out; omega) (by omega) (by omega)).mono ?_; rw [HV.out]; rintro e w1 ⟨vv, rfl, hs, hb1⟩; rw [he1]; have GV := Lib.hid (none_of_below hb1 (Nat.le_refl _)); have HGX := Lib.hid (grown_trans' GA.out GV.out); have HBZX := Lib.hid (BA.out.kept GV.out); clear hs hb1)
      | refine wpList_allocC zeroTr rfl rfl ?_
      | (refine wpList_storeC (off := 0) (p := tZero) aggTr.hi rfl (.tmp 2) (.tmp 25) rfl _ (by first | rfl | kernel_rfl) (fun u hu => by revert u hu; rw [← List.all_eq_true]; rfl) HBZX.out tZero_length (by rw [tZero_length]; omega) (by first | rfl | go_simp) rfl ?_; intro wz hz gz; rw [over_all _ _ (Nat.le_refl _)] at hz; have GZ := Lib.hid (none_new HGX.out gz (Nat.le_refl _)); have CZ := Lib.hid hz; clear hz gz))
    exact bodyPost_ret (results_C2 rfl _ aggTr CZ.out tZero_length rfl rfl) rfl (Rd.no HRN.out GZ.out rfl)

theorem gOk_spec (ls : List UInt8) (st en fl : Int) : gOk ls st en fl = (parses ls && (spanOk st en && flagsOk fl)) := by
  unfold gOk
  rfl
set_option maxHeartbeats 1000000 in
theorem refRightG_any (s : ByteArray) (ls k : List UInt8) (no st en fl : Int) (w : World) (hs : s.data.toList = ls) (hk : k.length = 16) (hls : ls.length ≤ 10000) :
    Calls Tryd.prog 72 #[.agg (gcells s k no st en fl).toArray] w fun e w' => e = .returned (.bool (gOk ls st en fl)) ∧ w.grownBy w' none := by
  have Hs := Lib.hid hs
  have HLs := Lib.hid hls
  have B0 := Lib.hid (CB.new w 50 (gcells s k no st en fl))
  have G0 := Lib.hid (grown_alloc w (.cells (gcells s k no st en fl).toArray 50) none)
  have q0 := B0.out.at_ (gcells_s s k no st en fl hk)
  have HQst := Lib.hid (gcells_st s k no st en fl hk)
  have HQen := Lib.hid (gcells_en s k no st en fl hk)
  have HQfl := Lib.hid (gcells_fl s k no st en fl hk)
  rw [gOk_spec]
  have TK0 := Lib.hid True.intro
  cases h1 : parses ls with
  | false =>
    have H1 := Lib.hid h1
    clear hs hls hk h1
    simp only [Bool.false_and]
    go_enter Tryd.func72, Tryd.ntmps72
    go_wp2_with (first
      | (go_at_call 90; have hx := TK0; clear hx; refine (refNamed_any s ls Hs.out _ HLs.out).mono ?_; rintro e w1 ⟨rfl, g1⟩; rw [H1.out]; have G1 := Lib.hid (grown_trans' G0.out g1); have B1 := Lib.hid (B0.out.kept g1); have TK1 := Lib.hid True.intro; clear g1))
    go_ret
    exact ⟨rfl, G1.out⟩
  | true =>
    have H1 := Lib.hid h1
    clear h1
    clear hs hls hk
    simp only [Bool.true_and]
    go_enter Tryd.func72, Tryd.ntmps72
    go_wp2_with (first
      | (go_at_call 96; refine (lastsRef_any st en fl _).mono ?_; rintro e wl ⟨rfl, rfl⟩)
      | (go_at_call 90; have hx := TK0; clear hx; refine (refNamed_any s ls Hs.out _ HLs.out).mono ?_; rintro e w1 ⟨rfl, g1⟩; rw [H1.out]; have G1 := Lib.hid (grown_trans' G0.out g1); have B1 := Lib.hid (B0.out.kept g1); have qst := (B0.out.kept g1).at_ HQst.out; have qen := (B0.out.kept g1).at_ HQen.out; have qfl := (B0.out.kept g1).at_ HQfl.out; have TK1 := Lib.hid True.intro; clear g1))
    go_ret
    exact ⟨rfl, G1.out⟩

/-- What the operations of the drawn region yield. -/
def RkgF (wk : World) (bV oV cV : Nat) (V0 : Option Addr) (m0 c0 : Nat) (v0 : List UInt8) (T3 : Int) (T4 : Int) (T5 : Int) (n2 : Nat) (Ky : List UInt8) (RES : List Value) : Nat → Value → World → Prop
  | 0, v, _ => v = .slice (some ⟨bV, oV, none⟩) 6 cV
  | 1, v, _ => v = .pointer (some ⟨bV, oV, none⟩)
  | 2, v, _ => v = .slice V0 m0 c0
  | 3, v, _ => v = .string (ba v0)
  | 4, v, _ => v = .agg (bcells Ky).toArray
  | 5, v, _ => v = .int .u64 (n2 : Int)
  | 6, v, _ => v = .int .i64 T3
  | 7, v, _ => v = .int .i64 T4
  | 8, v, _ => v = .int .i64 T5
  | 9, v, _ => v = .agg RES.toArray
  | 10, v, _ => v = .pointer (some ⟨wk.drew.heap.size, 0, none⟩)
  | 11, _, x => CB x wk.drew.heap.size 50 RES
  | _, _, _ => True
theorem RkgF.next {wk : World} {bV oV cV : Nat} {V0 : Option Addr} {m0 c0 : Nat} {v0 : List UInt8} {T3 : Int} {T4 : Int} {T5 : Int} {n2 : Nat} {Ky : List UInt8} {RES : List Value} : ∀ (j : Nat) (v : Value) (x y : World), Wr1 wk.drew.heap.size 50 RES x y → RkgF wk bV oV cV V0 m0 c0 v0 T3 T4 T5 n2 Ky RES j v x → RkgF wk bV oV cV V0 m0 c0 v0 T3 T4 T5 n2 Ky RES j v y
  | 0, _, _, _, _, h => h
  | 1, _, _, _, _, h => h
  | 2, _, _, _, _, h => h
  | 3, _, _, _, _, h => h
  | 4, _, _, _, _, h => h
  | 5, _, _, _, _, h => h
  | 6, _, _, _, _, h => h
  | 7, _, _, _, _, h => h
  | 8, _, _, _, _, h => h
  | 9, _, _, _, _, h => h
  | 10, _, _, _, _, h => h
  | 11, _, _, _, hg, h => CB.wr1 hg h
  | _ + 12, _, _, _, _, _ => by simp [RkgF]

set_option maxRecDepth 10000 in
set_option maxHeartbeats 4000000 in
theorem refgread_any (n cap : Nat) (A : Option Addr) (l : List UInt8) (w : World) (hn : l.length = n) (hb : n ≤ 10000) (h : RB w w.heap.size A l cap) :
    Calls Tryd.prog 28 #[.slice A n cap] w fun e w' => Rd w (gReads l) (gMade (gVals l)) gZero e w' := by
  have HN := Lib.hid hn
  have HB := Lib.hid hb
  have GA := Lib.hid (grown_alloc w (.cells gZero.toArray 50) none)
  have BA := Lib.hid (CB.new w 50 gZero)
  have RA := Lib.hid ((h.alloc (Nat.le_refl _) (.cells gZero.toArray 50)).more (by rw [World.size_alloc]; omega : w.heap.size ≤ (w.alloc (.cells gZero.toArray 50)).heap.size))
  have HTG := Lib.hid (show tagsOf 21 6 = [21, 22, 23, 24, 25, 26] by decide)
  obtain ⟨vs, e0, hv⟩ : ∃ vs e0, valuesOf l [21, 22, 23, 24, 25, 26] = (vs, e0) := ⟨_, _, rfl⟩
  by_cases he : e0 = 0
  · subst he
    obtain ⟨hvl, hvm⟩ := valuesOf_lens hv
    obtain ⟨v0, v1, v2, v3, v4, v5, rfl⟩ := six hvl
    have HRV := Lib.hid hv
    have HRD := Lib.hid (gReads_doc hv)
    have HMD := Lib.hid (show gVals l = [v0, v1, v2, v3, v4, v5] by rw [gVals, hv])
    obtain ⟨m0, hm0⟩ : ∃ m, v0.length = m := ⟨_, rfl⟩
    have HM0 := Lib.hid hm0
    have HZ0 := Lib.hid (show m0 ≤ 10000 by have := hvm v0 (by simp); omega)
    obtain ⟨m1, hm1⟩ : ∃ m, v1.length = m := ⟨_, rfl⟩
    have HM1 := Lib.hid hm1
    have HZ1 := Lib.hid (show m1 ≤ 10000 by have := hvm v1 (by simp); omega)
    obtain ⟨m2, hm2⟩ : ∃ m, v2.length = m := ⟨_, rfl⟩
    have HM2 := Lib.hid hm2
    have HZ2 := Lib.hid (show m2 ≤ 10000 by have := hvm v2 (by simp); omega)
    obtain ⟨m3, hm3⟩ : ∃ m, v3.length = m := ⟨_, rfl⟩
    have HM3 := Lib.hid hm3
    have HZ3 := Lib.hid (show m3 ≤ 10000 by have := hvm v3 (by simp); omega)
    obtain ⟨m4, hm4⟩ : ∃ m, v4.length = m := ⟨_, rfl⟩
    have HM4 := Lib.hid hm4
    have HZ4 := Lib.hid (show m4 ≤ 10000 by have := hvm v4 (by simp); omega)
    obtain ⟨m5, hm5⟩ : ∃ m, v5.length = m := ⟨_, rfl⟩
    have HM5 := Lib.hid hm5
    have HZ5 := Lib.hid (show m5 ≤ 10000 by have := hvm v5 (by simp); omega)
    obtain ⟨n2, hn2⟩ : ∃ m, (readOf v2).1 = m := ⟨_, rfl⟩
    obtain ⟨b2, hb2⟩ : ∃ b, (readOf v2).2 = b := ⟨_, rfl⟩
    obtain ⟨T2, ht2⟩ : ∃ t, timeN n2 = t := ⟨_, rfl⟩
    have HR2 := Lib.hid (show (readOf v2).1 = n2 ∧ (readOf v2).2 = b2 ∧ timeN n2 = T2 from ⟨hn2, hb2, ht2⟩)
    obtain ⟨n3, hn3⟩ : ∃ m, (readOf v3).1 = m := ⟨_, rfl⟩
    obtain ⟨b3, hb3⟩ : ∃ b, (readOf v3).2 = b := ⟨_, rfl⟩
    obtain ⟨T3, ht3⟩ : ∃ t, timeN n3 = t := ⟨_, rfl⟩
    have HR3 := Lib.hid (show (readOf v3).1 = n3 ∧ (readOf v3).2 = b3 ∧ timeN n3 = T3 from ⟨hn3, hb3, ht3⟩)
    obtain ⟨n4, hn4⟩ : ∃ m, (readOf v4).1 = m := ⟨_, rfl⟩
    obtain ⟨b4, hb4⟩ : ∃ b, (readOf v4).2 = b := ⟨_, rfl⟩
    obtain ⟨T4, ht4⟩ : ∃ t, timeN n4 = t := ⟨_, rfl⟩
    have HR4 := Lib.hid (show (readOf v4).1 = n4 ∧ (readOf v4).2 = b4 ∧ timeN n4 = T4 from ⟨hn4, hb4, ht4⟩)
    obtain ⟨n5, hn5⟩ : ∃ m, (readOf v5).1 = m := ⟨_, rfl⟩
    obtain ⟨b5, hb5⟩ : ∃ b, (readOf v5).2 = b := ⟨_, rfl⟩
    obtain ⟨T5, ht5⟩ : ∃ t, timeN n5 = t := ⟨_, rfl⟩
    have HR5 := Lib.hid (show (readOf v5).1 = n5 ∧ (readOf v5).2 = b5 ∧ timeN n5 = T5 from ⟨hn5, hb5, ht5⟩)
    obtain ⟨Ky, hK⟩ : ∃ Ky, keyB v1 = Ky := ⟨_, rfl⟩
    have HKB := Lib.hid hK
    have HKL := Lib.hid (show Ky.length = 16 by rw [← hK]; exact keyB_length _)
    obtain ⟨bk, hbk⟩ : ∃ b, decide (m1 = 16) = b := ⟨_, rfl⟩
    have HBKD := Lib.hid hbk
    obtain ⟨ok, hok⟩ : ∃ b, gOk v0 T3 T4 T5 = b := ⟨_, rfl⟩
    have HOK := Lib.hid hok
    have HVAL := Lib.hid (show gReads l = (b2 && (b3 && (b4 && (b5 && (bk && (ok)))))) by rw [HRD.out, HM1.out, hbk, hb2, hn3, hb3, ht3, hn4, hb4, ht4, hn5, hb5, ht5, hok])
    obtain ⟨RES, hres⟩ : ∃ RES, gcells (ba v0) Ky (n2 : Int) T3 T4 T5 = RES := ⟨_, rfl⟩
    have HRES := Lib.hid hres
    have HRL := Lib.hid (show RES.length = 21 by rw [← hres]; exact gcells_length _ _ _ _ _ _ HKL.out)
    have HRO := Lib.hid (show ∀ u ∈ RES, u.oneCell' = true by rw [← hres]; exact gcellsr_one _ _ _ _ _ _)
    have HBD := Lib.hid (show ∀ W, (Instr.build 50 #[(0, .string (ba v0)), (1, .agg (bcells Ky).toArray), (2, .int .u64 (n2 : Int)), (3, .int .i64 T3), (4, .int .i64 T4), (5, .int .i64 T5)]).run Tryd.prog W = .ok (.agg RES.toArray) W from fun W => by rw [← hres]; exact run_buildG _ _ _ _ _ _ HKL.out W)
    have HMV := Lib.hid (show ok = true → gMade [v0, v1, v2, v3, v4, v5] = RES from fun h1 => by rw [← hres, ← hK, ← hn2, ← ht3, ← hn3, ← ht4, ← hn4, ← ht5, ← hn5]; exact gMade_doc (by rw [hn3, ht3, hn4, ht4, hn5, ht5, hok, h1]))
    clear h hn hb hv hvl hvm hK hbk hok hres hm0 hm1 hm2 hm3 hm4 hm5 hn2 hb2 ht2 hn3 hb3 ht3 hn4 hb4 ht4 hn5 hb5 ht5
    have HV := Lib.hid (show valuesOf l (tagsOf 21 6) = ([v0, v1, v2, v3, v4, v5], 0) by rw [HTG.out]; have := HMD.out; have h2 := HRV.out; exact h2)
    go_enter Tryd.func28, Tryd.ntmps28
    go_wp2_with (first
      | (go_at_call 63; refine (refVals_any A l cap n 21 6 _ HN.out RA.out (by have := HB.out; omega) (by omega) (by omega)).mono ?_; rw [HV.out]; rintro e w1 ⟨vv, rfl, hs, hb1⟩; obtain ⟨VV, cV, rfl, hrs⟩ := hs; obtain ⟨bV, oV, rfl, hbV, hc⟩ := hrs.open_ (by simp); obtain ⟨V0, c0, q0, r0⟩ := hc 0 (by simp); simp only [List.getElem_cons_zero, Nat.add_zero] at q0 r0; rw [HM0.out] at q0; have HQ0 := Lib.hid q0; have HP0 := Lib.hid r0; obtain ⟨V1, c1, q1, r1⟩ := hc 1 (by simp); simp only [List.getElem_cons_zero, List.getElem_cons_succ] at q1 r1; rw [HM1.out] at q1; have HQ1 := Lib.hid q1; have HP1 := Lib.hid r1; obtain ⟨V2, c2, q2, r2⟩ := hc 2 (by simp); simp only [List.getElem_cons_zero, List.getElem_cons_succ] at q2 r2; rw [HM2.out] at q2; have HQ2 := Lib.hid q2; have HP2 := Lib.hid r2; obtain ⟨V3, c3, q3, r3⟩ := hc 3 (by simp); simp only [List.getElem_cons_zero, List.getElem_cons_succ] at q3 r3; rw [HM3.out] at q3; have HQ3 := Lib.hid q3; have HP3 := Lib.hid r3; obtain ⟨V4, c4, q4, r4⟩ := hc 4 (by simp); simp only [List.getElem_cons_zero, List.getElem_cons_succ] at q4 r4; rw [HM4.out] at q4; have HQ4 := Lib.hid q4; have HP4 := Lib.hid r4; obtain ⟨V5, c5, q5, r5⟩ := hc 5 (by simp); simp only [List.getElem_cons_zero, List.getElem_cons_succ] at q5 r5; rw [HM5.out] at q5; have HQ5 := Lib.hid q5; have HP5 := Lib.hid r5; have HBV := Lib.hid hbV; have GV := Lib.hid (none_of_below hb1 (Nat.le_refl _)); have G1 := Lib.hid (grown_trans' GA.out GV.out); have B1 := Lib.hid (BA.out.kept GV.out); have TK1 := Lib.hid True.intro; clear hb1 hbV hc hrs r0 r1 r2 r3 r4 r5 q0 q2 q3 q4 q5)
      | (go_at_call 65; have hx := TK5; clear hx; refine (refNumber_any V5 v5 m5 c5 _ _ HM5.out (HP5.out.kept2 GK.out)).mono ?_; rw [HR5.out.1, HR5.out.2.1, HR5.out.2.2]; rintro e wx5 ⟨rfl, rfl⟩; clear TK5)
      | (go_at_call 65; have hx := TK4; clear hx; refine (refNumber_any V4 v4 m4 c4 _ _ HM4.out (HP4.out.kept2 GK.out)).mono ?_; rw [HR4.out.1, HR4.out.2.1, HR4.out.2.2]; rintro e wx4 ⟨rfl, rfl⟩; have TK5 := Lib.hid True.intro; clear TK4)
      | (go_at_call 65; have hx := TK3; clear hx; refine (refNumber_any V3 v3 m3 c3 _ _ HM3.out (HP3.out.kept2 GK.out)).mono ?_; rw [HR3.out.1, HR3.out.2.1, HR3.out.2.2]; rintro e wx3 ⟨rfl, rfl⟩; have TK4 := Lib.hid True.intro; clear TK3)
      | (go_at_call 65; have hx := TK2; clear hx; refine (refNumber_any V2 v2 m2 c2 _ _ HM2.out (HP2.out.kept2 GK.out)).mono ?_; rw [HR2.out.1, HR2.out.2.1, HR2.out.2.2]; rintro e wx2 ⟨rfl, rfl⟩; have TK3 := Lib.hid True.intro; clear TK2)
      | (go_at_call 64; refine (refKeyT_any m1 c1 V1 v1 _ HM1.out (by have := HZ1.out; omega) HP1.out).mono ?_; rw [HKB.out, HBKD.out]; rintro e w2 ⟨rfl, g2⟩; have G2 := Lib.hid g2; clear g2)
      | refine wpList_allocC zeroGr rfl rfl ?_
      | refine wpList_allocC zeroK rfl rfl ?_
      | (refine wpList_storeC (off := 0) (p := bcells Ky) aggK.hi rfl (.tmp 6) (.tmp 34) rfl (.agg (bcells Ky).toArray) rfl (bcells_one _) (CB.new w2 23 (bcells (zeros 16))) (by rw [bcells_length, HKL.out]) (by rw [bcells_length, zeros_length]; omega) (by first | rfl | go_simp) rfl ?_; intro wk hk1 gk1; rw [over_all _ _ (by rw [bcells_length, bcells_length, HKL.out, zeros_length]; exact Nat.le_refl _)] at hk1; have HCK0 := Lib.hid hk1; have GK := Lib.hid (none_new (grown_trans' G2.out (grown_alloc w2 _ none)) gk1 G2.out.size); have GW := Lib.hid (grown_trans' G1.out GK.out); have BW := Lib.hid (B1.out.kept GK.out); have q2 := ((below_of_none GK.out).cell HBV.out).trans HQ2.out; have q3 := ((below_of_none GK.out).cell HBV.out).trans HQ3.out; have q4 := ((below_of_none GK.out).cell HBV.out).trans HQ4.out; have q5 := ((below_of_none GK.out).cell HBV.out).trans HQ5.out; have TK2 := Lib.hid True.intro; clear hk1 gk1))
    generalize w2.heap.size = gk at *
    have HCK := Lib.hid (show CB wk.drew gk 23 (bcells Ky) from HCK0.out)
    have HBK := Lib.hid (show bV < wk.drew.heap.size from Nat.lt_of_lt_of_le HBV.out GK.out.size)
    have HK0 := Lib.hid (show wk.drew.cell? ⟨bV, oV, none⟩ = some (.slice V0 m0 c0) from ((below_of_none GK.out).cell HBV.out).trans HQ0.out)
    have HS0 := Lib.hid (show RB wk.drew wk.drew.heap.size V0 v0 c0 from HP0.out.kept2 (grown_drew GK.out))
    have HGD := Lib.hid (grown_drew GW.out)
    have HBW := Lib.hid (show CB wk.drew w.heap.size 50 gZero from BW.out)
    refine region_byL (n := 12) (ds := [some 68, some 69, some 70, some 71, some 72, some 73, some 74, some 75, some 76, some 77, some 20, none]) (Wr1 wk.drew.heap.size 50 RES) (GAl wk.drew 10 wk.drew.heap.size 50 21) (RkgF wk bV oV cV V0 m0 c0 v0 T3 T4 T5 n2 Ky RES) (by kernel_rfl) (by kernel_rfl) rfl (by kernel_rfl) (fun j v x y hg h => RkgF.next j v x y hg h) (GAl.start _ _ _ _ _) ⟨⟨⟨⟨⟨⟨⟨⟨⟨⟨⟨⟨trivial, ?_⟩, ?_⟩, ?_⟩, ?_⟩, ?_⟩, ?_⟩, ?_⟩, ?_⟩, ?_⟩, ?_⟩, ?_⟩, ?_⟩ ?_
    · refine Inv.dutyL_plain rfl rfl (fun L vs a x hL hG dep up val ev out K hK => ?_)
      have hW := hG.1
      have e4 : a.eval (.tmp 4) = .slice (some ⟨bV, oV, none⟩) 6 cV := (out 4 (by kernel_rfl)).trans rfl
      refine Inv.wp_value (v := .slice (some ⟨bV, oV, none⟩) 6 cV) ?_ (hK.out _ _ (Wr1.refl x) (hG.keep (by decide)) rfl)
      clear hK K dep up val ev out hG hL
      generalize a.eval = ρ at *
      (simp [execOp, go_sem, *]; done)
    · refine Inv.dutyL_plain rfl rfl (fun L vs a x hL hG dep up val ev out K hK => ?_)
      have hW := hG.1
      have ek : ∀ u, a.eval (.const u) = u := fun _ => rfl
      have L68 := dep 0 (by kernel_rfl)
      have e68 : a.eval (.tmp 68) = .slice (some ⟨bV, oV, none⟩) 6 cV := (ev 0 68 L68 (by kernel_rfl)).trans (val 0 L68)
      refine Inv.wp_value (v := .pointer (some ⟨bV, oV, none⟩)) ?_ (hK.out _ _ (Wr1.refl x) (hG.keep (by decide)) rfl)
      clear hK K dep up val ev out hG hL
      generalize a.eval = ρ at *
      (simp [execOp, go_sem, *]; done)
    · refine Inv.dutyL_plain rfl rfl (fun L vs a x hL hG dep up val ev out K hK => ?_)
      have hW := hG.1
      have L69 := dep 1 (by kernel_rfl)
      have e69 : a.eval (.tmp 69) = .pointer (some ⟨bV, oV, none⟩) := (ev 1 69 L69 (by kernel_rfl)).trans (val 1 L69)
      have hcell : x.cell? ⟨bV, oV, none⟩ = some (.slice V0 m0 c0) := (hW.cell HBK.out).trans HK0.out
      refine Inv.wp_value (v := .slice V0 m0 c0) ?_ (hK.out _ _ (Wr1.refl x) (hG.keep (by decide)) rfl)
      clear hK K dep up val ev out hG hL
      generalize a.eval = ρ at *
      (simp [execOp, go_sem, *]; done)
    · refine Inv.dutyL_plain rfl rfl (fun L vs a x hL hG dep up val ev out K hK => ?_)
      have hW := hG.1
      have L70 := dep 2 (by kernel_rfl)
      have e70 : a.eval (.tmp 70) = .slice V0 m0 c0 := (ev 2 70 L70 (by kernel_rfl)).trans (val 2 L70)
      have s1 := run_strB byteT Tryd.underlying9 (HS0.out.below hW)
      rw [HM0.out] at s1
      exact wp_convV (.tmp 70) rfl e70 s1 (hK.out _ _ (Wr1.refl x) (hG.keep (by decide)) rfl)
    · refine Inv.dutyL_plain rfl rfl (fun L vs a x hL hG dep up val ev out K hK => ?_)
      have hW := hG.1
      have e6 : a.eval (.tmp 6) = .pointer (some ⟨gk, 0, none⟩) := (out 6 (by kernel_rfl)).trans rfl
      refine wp_loadC (off := 0) (p := bcells Ky) aggK (.tmp 6) rfl (HCK.out.below hW HCK.out.lt) (by rw [List.drop_zero]; exact List.take_of_length_le (by rw [bcells_length, HKL.out]; exact Nat.le_refl _)) (by rw [bcells_length, HKL.out]; omega) e6 (hK.out _ _ (Wr1.refl x) (hG.keep (by decide)) rfl)
    · refine Inv.dutyL_plain rfl rfl (fun L vs a x hL hG dep up val ev out K hK => ?_)
      have hW := hG.1
      have e8 : a.eval (.tmp 8) = .int .u64 (n2 : Int) := (out 8 (by kernel_rfl)).trans rfl
      refine Inv.wp_value (v := .int .u64 (n2 : Int)) ?_ (hK.out _ _ (Wr1.refl x) (hG.keep (by decide)) rfl)
      clear hK K dep up val ev out hG hL
      generalize a.eval = ρ at *
      (simp [execOp, go_sem, *]; done)
    · refine Inv.dutyL_plain rfl rfl (fun L vs a x hL hG dep up val ev out K hK => ?_)
      have hW := hG.1
      have e12 : a.eval (.tmp 12) = .int .i64 T3 := (out 12 (by kernel_rfl)).trans rfl
      refine Inv.wp_value (v := .int .i64 T3) ?_ (hK.out _ _ (Wr1.refl x) (hG.keep (by decide)) rfl)
      clear hK K dep up val ev out hG hL
      generalize a.eval = ρ at *
      (simp [execOp, go_sem, *]; done)
    · refine Inv.dutyL_plain rfl rfl (fun L vs a x hL hG dep up val ev out K hK => ?_)
      have hW := hG.1
      have e15 : a.eval (.tmp 15) = .int .i64 T4 := (out 15 (by kernel_rfl)).trans rfl
      refine Inv.wp_value (v := .int .i64 T4) ?_ (hK.out _ _ (Wr1.refl x) (hG.keep (by decide)) rfl)
      clear hK K dep up val ev out hG hL
      generalize a.eval = ρ at *
      (simp [execOp, go_sem, *]; done)
    · refine Inv.dutyL_plain rfl rfl (fun L vs a x hL hG dep up val ev out K hK => ?_)
      have hW := hG.1
      have e18 : a.eval (.tmp 18) = .int .i64 T5 := (out 18 (by kernel_rfl)).trans rfl
      refine Inv.wp_value (v := .int .i64 T5) ?_ (hK.out _ _ (Wr1.refl x) (hG.keep (by decide)) rfl)
      clear hK K dep up val ev out hG hL
      generalize a.eval = ρ at *
      (simp [execOp, go_sem, *]; done)
    · refine Inv.dutyL_plain rfl rfl (fun L vs a x hL hG dep up val ev out K hK => ?_)
      have hW := hG.1
      have L71 := dep 3 (by kernel_rfl)
      have e71 : a.eval (.tmp 71) = .string (ba v0) := (ev 3 71 L71 (by kernel_rfl)).trans (val 3 L71)
      have L72 := dep 4 (by kernel_rfl)
      have e72 : a.eval (.tmp 72) = .agg (bcells Ky).toArray := (ev 4 72 L72 (by kernel_rfl)).trans (val 4 L72)
      have L73 := dep 5 (by kernel_rfl)
      have e73 : a.eval (.tmp 73) = .int .u64 (n2 : Int) := (ev 5 73 L73 (by kernel_rfl)).trans (val 5 L73)
      have L74 := dep 6 (by kernel_rfl)
      have e74 : a.eval (.tmp 74) = .int .i64 T3 := (ev 6 74 L74 (by kernel_rfl)).trans (val 6 L74)
      have L75 := dep 7 (by kernel_rfl)
      have e75 : a.eval (.tmp 75) = .int .i64 T4 := (ev 7 75 L75 (by kernel_rfl)).trans (val 7 L75)
      have L76 := dep 8 (by kernel_rfl)
      have e76 : a.eval (.tmp 76) = .int .i64 T5 := (ev 8 76 L76 (by kernel_rfl)).trans (val 8 L76)
      exact wp_buildV rfl (by simp [e71, e72, e73, e74, e75, e76]) (HBD.out x) (hK.out _ _ (Wr1.refl x) (hG.keep (by decide)) rfl)
    · refine Inv.dutyL_plain rfl rfl (fun L vs a x hL hG dep up val ev out K hK => ?_)
      have hW := hG.1
      obtain rfl := hG.none hL
      refine Inv.wp_allocC zeroGr rfl (hK.out _ _ (.inl (grown_alloc _ _ _)) (GAl.made gZero_length) rfl)
    · refine Inv.dutyL_plain rfl rfl (fun L vs a x hL hG dep up val ev out K hK => ?_)
      have hW := hG.1
      have L20 := dep 10 (by kernel_rfl)
      have e20 : a.eval (.tmp 20) = .pointer (some ⟨wk.drew.heap.size, 0, none⟩) := (ev 10 20 L20 (by kernel_rfl)).trans (val 10 L20)
      have L77 := dep 9 (by kernel_rfl)
      have e77 : a.eval (.tmp 77) = .agg RES.toArray := (ev 9 77 L77 (by kernel_rfl)).trans (val 9 L77)
      obtain ⟨cs, hcl, hB⟩ := hG.some L20
      refine wp_storeC (d := none) (off := 0) (p := RES) aggGr.hi rfl (.tmp 20) (.tmp 77) rfl (.agg RES.toArray) rfl HRO.out hB HRL.out (by have := HRL.out; omega) e20 e77 ?_
      intro w' h g
      rw [over_all _ _ (by have := HRL.out; omega)] at h
      exact hK.out _ _ (.inr ⟨g, h⟩) (hG.stored (by decide) L20 HRL.out g h) h
    intro us L w' hL hG hv
    have hC : CB w' wk.drew.heap.size 50 RES := hv 11 (by omega)
    have h8 : us 10 = .pointer (some ⟨wk.drew.heap.size, 0, none⟩) := hv 10 (by omega)
    have hW := hG.1
    simp only [Inv.putAll, Act.put, List.setIfInBounds_toArray, List.set_cons_zero, List.set_cons_succ, Nat.zero_add, Nat.reduceAdd]
    rw [h8]
    have HG := Lib.hid (grown_trans' HGD.out (none_of_below hW (Nat.le_refl _)))
    have HC := Lib.hid hC
    have HBZ := Lib.hid (HBW.out.kept (none_of_below hW (Nat.le_refl _)))
    clear hv hC hG hW hL h8
    generalize wk.drew.heap.size = gm at *
    cases bk with
    | false =>
      have HBZX := Lib.hid HBZ.out
      have HGX := Lib.hid HG.out
      go_wp2_with (first
        | (refine wpList_storeC (off := 0) (p := gZero) aggGr.hi rfl (.tmp 2) (.tmp 101) rfl _ (by first | rfl | kernel_rfl) (fun u hu => by revert u hu; rw [← List.all_eq_true]; rfl) HBZX.out gZero_length (by rw [gZero_length]; omega) (by first | rfl | go_simp) rfl ?_; intro wz hz gz; rw [over_all _ _ (Nat.le_refl _)] at hz; have GZ := Lib.hid (none_new HGX.out gz (Nat.le_refl _)); have CZ := Lib.hid hz; clear hz gz))
      exact bodyPost_ret (results_C2 rfl _ aggGr CZ.out gZero_length rfl rfl) rfl (Rd.no (by rw [HVAL.out]; simp) GZ.out rfl)
    | true =>
      cases b2 with
      | false =>
        have HBZX := Lib.hid HBZ.out
        have HGX := Lib.hid HG.out
        go_wp2_with (first
          | (refine wpList_storeC (off := 0) (p := gZero) aggGr.hi rfl (.tmp 2) (.tmp 101) rfl _ (by first | rfl | kernel_rfl) (fun u hu => by revert u hu; rw [← List.all_eq_true]; rfl) HBZX.out gZero_length (by rw [gZero_length]; omega) (by first | rfl | go_simp) rfl ?_; intro wz hz gz; rw [over_all _ _ (Nat.le_refl _)] at hz; have GZ := Lib.hid (none_new HGX.out gz (Nat.le_refl _)); have CZ := Lib.hid hz; clear hz gz))
        exact bodyPost_ret (results_C2 rfl _ aggGr CZ.out gZero_length rfl rfl) rfl (Rd.no (by rw [HVAL.out]; simp) GZ.out rfl)
      | true =>
        cases b3 with
        | false =>
          have HBZX := Lib.hid HBZ.out
          have HGX := Lib.hid HG.out
          go_wp2_with (first
            | (refine wpList_storeC (off := 0) (p := gZero) aggGr.hi rfl (.tmp 2) (.tmp 101) rfl _ (by first | rfl | kernel_rfl) (fun u hu => by revert u hu; rw [← List.all_eq_true]; rfl) HBZX.out gZero_length (by rw [gZero_length]; omega) (by first | rfl | go_simp) rfl ?_; intro wz hz gz; rw [over_all _ _ (Nat.le_refl _)] at hz; have GZ := Lib.hid (none_new HGX.out gz (Nat.le_refl _)); have CZ := Lib.hid hz; clear hz gz))
          exact bodyPost_ret (results_C2 rfl _ aggGr CZ.out gZero_length rfl rfl) rfl (Rd.no (by rw [HVAL.out]; simp) GZ.out rfl)
        | true =>
          cases b4 with
          | false =>
            have HBZX := Lib.hid HBZ.out
            have HGX := Lib.hid HG.out
            go_wp2_with (first
              | (refine wpList_storeC (off := 0) (p := gZero) aggGr.hi rfl (.tmp 2) (.tmp 101) rfl _ (by first | rfl | kernel_rfl) (fun u hu => by revert u hu; rw [← List.all_eq_true]; rfl) HBZX.out gZero_length (by rw [gZero_length]; omega) (by first | rfl | go_simp) rfl ?_; intro wz hz gz; rw [over_all _ _ (Nat.le_refl _)] at hz; have GZ := Lib.hid (none_new HGX.out gz (Nat.le_refl _)); have CZ := Lib.hid hz; clear hz gz))
            exact bodyPost_ret (results_C2 rfl _ aggGr CZ.out gZero_length rfl rfl) rfl (Rd.no (by rw [HVAL.out]; simp) GZ.out rfl)
          | true =>
            cases b5 with
            | false =>
              have HBZX := Lib.hid HBZ.out
              have HGX := Lib.hid HG.out
              go_wp2_with (first
                | (refine wpList_storeC (off := 0) (p := gZero) aggGr.hi rfl (.tmp 2) (.tmp 101) rfl _ (by first | rfl | kernel_rfl) (fun u hu => by revert u hu; rw [← List.all_eq_true]; rfl) HBZX.out gZero_length (by rw [gZero_length]; omega) (by first | rfl | go_simp) rfl ?_; intro wz hz gz; rw [over_all _ _ (Nat.le_refl _)] at hz; have GZ := Lib.hid (none_new HGX.out gz (Nat.le_refl _)); have CZ := Lib.hid hz; clear hz gz))
              exact bodyPost_ret (results_C2 rfl _ aggGr CZ.out gZero_length rfl rfl) rfl (Rd.no (by rw [HVAL.out]; simp) GZ.out rfl)
            | true =>
              have HC0 := Lib.hid True.intro
              cases ok with
              | false =>
                go_wp2_with (first
                  | (have hx := HC0; clear hx; refine wpList_loadCg (off := 0) (p := RES) aggGr (by first | rfl | go_simp) (.tmp 20) rfl HC.out (by rw [List.drop_zero]; exact List.take_of_length_le (by rw [HRL.out]; exact Nat.le_refl _)) (by rw [HRL.out]; omega) (by first | rfl | go_simp) ?_)
                  | (go_at_call 72; rw [← HRES.out]; refine (refRightG_any (ba v0) v0 Ky (n2 : Int) T3 T4 T5 _ (ba_data _) HKL.out (by have := HZ0.out; have := HM0.out; omega)).mono ?_; rw [HOK.out, HRES.out]; rintro e wr ⟨rfl, gr⟩; have HBZX := Lib.hid (HBZ.out.kept gr); have HGX := Lib.hid (grown_trans' HG.out gr); have HCX := Lib.hid (HC.out.kept gr); clear HC0 gr)
                  | (refine wpList_storeC (off := 0) (p := gZero) aggGr.hi rfl (.tmp 2) (.tmp 101) rfl _ (by first | rfl | kernel_rfl) (fun u hu => by revert u hu; rw [← List.all_eq_true]; rfl) HBZX.out gZero_length (by rw [gZero_length]; omega) (by first | rfl | go_simp) rfl ?_; intro wz hz gz; rw [over_all _ _ (Nat.le_refl _)] at hz; have GZ := Lib.hid (none_new HGX.out gz (Nat.le_refl _)); have CZ := Lib.hid hz; clear hz gz))
                exact bodyPost_ret (results_C2 rfl _ aggGr CZ.out gZero_length rfl rfl) rfl (Rd.no (by rw [HVAL.out]; simp) GZ.out rfl)
              | true =>
                go_wp2_with (first
                  | (have hx := HC0; clear hx; refine wpList_loadCg (off := 0) (p := RES) aggGr (by first | rfl | go_simp) (.tmp 20) rfl HC.out (by rw [List.drop_zero]; exact List.take_of_length_le (by rw [HRL.out]; exact Nat.le_refl _)) (by rw [HRL.out]; omega) (by first | rfl | go_simp) ?_)
                  | (go_at_call 72; rw [← HRES.out]; refine (refRightG_any (ba v0) v0 Ky (n2 : Int) T3 T4 T5 _ (ba_data _) HKL.out (by have := HZ0.out; have := HM0.out; omega)).mono ?_; rw [HOK.out, HRES.out]; rintro e wr ⟨rfl, gr⟩; have HBZX := Lib.hid (HBZ.out.kept gr); have HGX := Lib.hid (grown_trans' HG.out gr); have HCX := Lib.hid (HC.out.kept gr); clear HC0 gr)
                  | refine wpList_loadCg (off := 0) (p := RES) aggGr (by first | rfl | go_simp) (.tmp 20) rfl HCX.out (by rw [List.drop_zero]; exact List.take_of_length_le (by rw [HRL.out]; exact Nat.le_refl _)) (by rw [HRL.out]; omega) (by first | rfl | go_simp) ?_
                  | (refine wpList_storeC (off := 0) (p := RES) aggGr.hi rfl (.tmp 2) (.tmp 102) rfl (.agg RES.toArray) rfl HRO.out HBZX.out HRL.out (by rw [gZero_length]; omega) (by first | rfl | go_simp) rfl ?_; intro wz hz gz; rw [over_all _ _ (by rw [HRL.out, gZero_length]; exact Nat.le_refl _)] at hz; have GZ := Lib.hid (none_new HGX.out gz (Nat.le_refl _)); have CZ := Lib.hid hz; clear hz gz))
                exact bodyPost_ret (results_C2 rfl _ aggGr CZ.out HRL.out rfl rfl) rfl (Rd.yes (by rw [HVAL.out]; simp) GZ.out (by rw [HMD.out, HMV.out (by simp)]; rfl))
  · have HE := Lib.hid he
    have HRN := Lib.hid (show gReads l = false by rw [gReads, hv]; simp [he])
    have HV := Lib.hid (show valuesOf l (tagsOf 21 6) = (vs, e0) by rw [HTG.out]; exact hv)
    have he1 : (e0 == 0) = false := by simpa using he
    clear h hn hb hv he
    go_enter Tryd.func28, Tryd.ntmps28
    go_wp2_with (first
      | (go_at_call 63; refine (refVals_any A l cap n 21 6 _ HN.out RA.out (by have := HB.out; omega) (by omega) (by omega)).mono ?_; rw [HV.out]; rintro e w1 ⟨vv, rfl, hs, hb1⟩; rw [he1]; have GV := Lib.hid (none_of_below hb1 (Nat.le_refl _)); have HGX := Lib.hid (grown_trans' GA.out GV.out); have HBZX := Lib.hid (BA.out.kept GV.out); clear hs hb1)
      | refine wpList_allocC zeroGr rfl rfl ?_
      | (refine wpList_storeC (off := 0) (p := gZero) aggGr.hi rfl (.tmp 2) (.tmp 28) rfl _ (by first | rfl | kernel_rfl) (fun u hu => by revert u hu; rw [← List.all_eq_true]; rfl) HBZX.out gZero_length (by rw [gZero_length]; omega) (by first | rfl | go_simp) rfl ?_; intro wz hz gz; rw [over_all _ _ (Nat.le_refl _)] at hz; have GZ := Lib.hid (none_new HGX.out gz (Nat.le_refl _)); have CZ := Lib.hid hz; clear hz gz))
    exact bodyPost_ret (results_C2 rfl _ aggGr CZ.out gZero_length rfl rfl) rfl (Rd.no HRN.out GZ.out rfl)

end Go.Proofs.YtnaoagiphehcaaaDoor
