/- The walk of TeloptEscapes. -/
import Derived.Test.YtcfhpoigfkljpaaTlk
import Derived.Test.YtcfhpoigfkljpaaTly
namespace Go.Proofs.Ytcfhpoigfkljpaa
open Go.ChangeShapes Go.WideShapes Go.RowKit
set_option linter.unusedVariables false

def sb (l : List UInt8) : ByteArray := ⟨l.toArray⟩
theorem sb_app (a b : List UInt8) : sb (a ++ b) = sb a ++ sb b := by
  apply ByteArray.ext
  simp [sb]
theorem and_low (k : Int) (j : Nat) (hj : j ≤ 62) : ∃ m : Nat, m < 2 ^ j ∧ bits .and .i64 k ((2 ^ j - 1 : Nat) : Int) = (m : Int) := by
  have hp : 2 ^ j ≤ 2 ^ 62 := Nat.pow_le_pow_right (by decide) hj
  have h2 : (2 : Nat) ^ 62 = 4611686018427387904 := by decide
  refine ⟨(BitVec.ofInt 64 k).toNat % 2 ^ j, Nat.mod_lt _ (Nat.two_pow_pos j), ?_⟩
  have hb : (BitVec.ofInt 64 (((2 ^ j - 1 : Nat) : Int))).toNat = 2 ^ j - 1 := by
    rw [BitVec.ofInt_natCast, BitVec.toNat_ofNat]
    exact Nat.mod_eq_of_lt (by omega)
  have hm := Nat.mod_lt (BitVec.ofInt 64 k).toNat (Nat.two_pow_pos j)
  show IntKind.i64.wrap (((BitVec.ofInt 64 k &&& BitVec.ofInt 64 ((2 ^ j - 1 : Nat) : Int)).toNat : Nat) : Int) = _
  rw [BitVec.toNat_and, hb, Nat.and_two_pow_sub_one_eq_mod, IntKind.wrap_i64]
  omega
theorem convB {w : World} {B : Nat} {A : Option Addr} {l : List UInt8} {n c : Nat} (h : RB w B A l c) (hn : l.length = n) : (convert 22 9 (.slice A n c)).run Try.prog w = .ok (.string (sb l)) w := by
  subst hn
  exact run_strB byteT strTy h
/-- What stands at the head of each round. -/
def EsRel (w : World) (r : Nat) (ls : List (List UInt8)) (m : Nat) (s8 s9 s10 s33 : Value) (wr : World) : Prop :=
  ∃ (k : Nat) (pv : Value), s33 = .int .i64 k ∧ k ≤ m ∧ s8 = .string (sb (ls.take k).flatten) ∧ s9 = .string (sb (ls.take k).flatten) ∧ s10 = .int .i64 k ∧ (ls.take k).flatten.length ≤ 300 * k ∧ RD wr w.heap.size r pv ts0 ∧ w.grownBy wr none
/-- What stands at the head of each byte's round. -/
def EsB (w : World) (r : Nat) (W : List UInt8) (k : Nat) (bs : List UInt8) (u : Value) (s9 s10 s64 : Value) (wr : World) : Prop :=
  ∃ (j : Nat) (pv : Value), s64 = .int .i64 j ∧ j ≤ bs.length ∧ s9 = .string (sb (W ++ datO (evs ts0 (bs.take j)))) ∧ s10 = .int .i64 ((k + cntV (evs ts0 (bs.take j)) : Nat) : Int) ∧ RD wr w.heap.size r pv (endT ts0 (bs.take j)) ∧ OwnB wr w.heap.size 5 u bs ∧ (∀ g, u.ownBlock = some g → pv.ownBlock ≠ some g) ∧ w.grownBy wr none
theorem cntV_le (ts : List Tl) : cntV ts ≤ ts.length := by
  induction ts with
  | nil => exact Nat.le_refl _
  | cons p ts ih =>
    show (if p.kind = 2 then 1 else 0) + cntV ts ≤ ts.length + 1
    split <;> omega

set_option maxRecDepth 20000 in
set_option maxHeartbeats 16000000 in
theorem walk_TeloptEscapes (w : World) (A0 : Option Addr) (ls : List (List UInt8)) (cap0 : Nat) (h0 : RT w w.heap.size A0 ls cap0) (_ : True) (verb : Int) (_ : (Lit.int .i64 verb).wf = true) (opt : Int) (_ : (Lit.int .i64 opt).wf = true) :
    Calls Try.prog 7 #[.slice A0 ls.length cap0, .int .i64 verb, .int .i64 opt] w fun e w' => e = .returned (.bool true) ∧ Below w.heap.size w w' := by
  have H0 := Lib.hid h0
  obtain ⟨m0, hm0⟩ : ∃ m, ls.length = m := ⟨_, rfl⟩
  have M0 := Lib.hid hm0
  have k0 : m0 ≤ 9223372036854775807 := by have := h0.1; have := h0.2.1; unfold maxLen at this; omega
  rw [hm0]
  clear h0 hm0
  by_cases g0 : 10 < m0
  · have gi : (10 : Int) < (m0 : Int) := by omega
    go_enter Try.func7, Try.ntmps7
    go_wp2_with (go_at_call 8; refine (speaks_any _).mono ?_; rintro e w1 ⟨rfl, g1⟩; have G1 := Lib.hid g1; clear g1)
    go_ret
    exact ⟨rfl, below_of_none G1.out⟩
  have g0i : ¬ (10 : Int) < (m0 : Int) := by omega
  have HM0 := Lib.hid (show m0 ≤ 10 by omega)
  obtain ⟨vm, hvm, hv3⟩ := and_low verb 2 (by decide)
  obtain ⟨om, hom, ho3⟩ := and_low opt 8 (by decide)
  have hand1 : bits .and .i64 verb 3 = (vm : Int) := hv3
  have hand2 : bits .and .i64 opt 255 = (om : Int) := ho3
  have hvm : vm < 4 := hvm
  have hom : om < 256 := hom
  obtain ⟨vn, hvn⟩ : ∃ x : Int, x = 251 + (vm : Int) := ⟨_, rfl⟩
  have hadd : IntKind.i64.wrap (251 + (vm : Int)) = vn := by rw [hvn]; simp [IntKind.wrap, IntKind.bits, IntKind.signed]; omega
  have HV := Lib.hid (wrE_verb (v := vn) (o := (om : Int)) (by omega) (by omega))
  clear g0 hv3 ho3 hvn
  go_enter Try.func7, Try.ntmps7
  go_wp2_with (first
    | (go_at_call 8; refine (speaks_any _).mono ?_; rintro e w1 ⟨rfl, g1⟩; have G1 := Lib.hid g1; clear g1)
    | (go_at_call 11; refine (newReader_any _).mono ?_; rintro e w2 ⟨rfl, r2, g2⟩; have R2 := Lib.hid (r2.base_ G1.out.size); have G2 := Lib.hid (grown_trans' G1.out g2); clear r2 g2))
  have S2 := Lib.hid (show EsRel w w1.heap.size ls m0 (.string ⟨#[]⟩) (.string ⟨#[]⟩) (.int .i64 0) (.int .i64 0) w2 from ⟨0, .slice none 0 0, rfl, Nat.zero_le _, rfl, rfl, rfl, by simp, R2.out, G2.out⟩)
  clear R2 G2 G1
  generalize w1.heap.size = r at *
  go_loopw [8, 9, 10, 33] (fun s8 s9 s10 s33 wr => EsRel w r ls m0 s8 s9 s10 s33 wr) (fun _ _ _ s33 _ => m0 - (intOf s33).toNat)
  case atStart => exact S2.out
  case round =>
    obtain ⟨wo, hwo⟩ : ∃ wo : World, wo = wr := ⟨_, rfl⟩
    subst hwo
    obtain ⟨k, pv, rfl, hk, rfl, rfl, rfl, hfl, hR, hG⟩ := hrel
    have HKM := Lib.hid hk
    have R0 := Lib.hid hR
    have G0 := Lib.hid hG
    have HFL := Lib.hid hfl
    clear hR hG hfl
    by_cases hlt : k < m0
    · obtain ⟨b, off, rfl, hbb, hc⟩ := H0.out.open_ (by have := M0.out; omega)
      obtain ⟨d, hd⟩ : ∃ d, ls[k]? = some d := ⟨_, List.getElem?_eq_getElem (by have := M0.out; omega)⟩
      obtain ⟨V, cv, c1, hV⟩ := hc k d hd
      obtain ⟨ln, hln⟩ : ∃ x, d.length = x := ⟨_, rfl⟩
      rw [hln] at c1
      have HLN := Lib.hid hln
      have HVV := Lib.hid hV
      have q0 := ((below_of_none G0.out).cell (p := ⟨b, off + k, none⟩) hbb).trans c1
      have hki : (k : Int) < (m0 : Int) := by omega
      have HFT := Lib.hid (show (ls.take (k + 1)).flatten = (ls.take k).flatten ++ d by
        rw [flat_take ls k (by have := M0.out; omega)]
        congr 1
        have := List.getElem?_eq_getElem (l := ls) (i := k) (by have := M0.out; omega)
        rw [hd] at this
        injection this with this
        exact this.symm)
      clear hc hd c1 hV hln hbb
      by_cases h3 : 300 < ln
      · have hi : (300 : Int) < (ln : Int) := by omega
        go_wp2
        go_ret
        exact ⟨rfl, below_of_none G0.out⟩
      have hi : ¬ (300 : Int) < (ln : Int) := by omega
      have HL3 := Lib.hid (show d.length ≤ 300 by have := HLN.out; omega)
      obtain ⟨W, hW⟩ : ∃ W, (ls.take k).flatten = W := ⟨_, rfl⟩
      rw [hW] at HFT HFL
      rw [hW]
      obtain ⟨b1, hb1⟩ : ∃ x, wrF ⟨1, 0, 0, d⟩ = x := ⟨_, rfl⟩
      obtain ⟨b2, hb2⟩ : ∃ x, wrF ⟨2, vn, (om : Int), []⟩ = x := ⟨_, rfl⟩
      have HB1 := Lib.hid hb1
      have HB2 := Lib.hid hb2
      have HBL := Lib.hid (show b1.length ≤ 605 ∧ b2.length ≤ 5 from ⟨by rw [← hb1]; exact wrF_data HL3.out, by rw [← hb2]; exact wrF_verb _ _⟩)
      have HES := Lib.hid (esc_round (wrE_data HL3.out) HV.out)
      rw [hb1, hb2] at HES
      have hz : ¬ 9223372036854775807 < (sb W).size + (sb d).size := by
        have e1 : (sb W).size = W.length := rfl
        have e2 : (sb d).size = d.length := rfl
        rw [e1, e2]
        have := HFL.out; have := HL3.out; have := HM0.out; omega
      have TK0 := Lib.hid True.intro
      clear h3 hW hb1 hb2
      go_wp2_with (first
        | (go_at_call 9
           have hx := TK0
           clear hx TK0
           refine (write_any wo ⟨1, 0, 0, d⟩ V ln cv HLN.out ((HVV.out.below (below_of_none G0.out)).more G0.out.size) (by have := HL3.out; have := HLN.out; omega)).mono ?_
           rintro e w3 ⟨v3, rfl, o3, g3⟩
           rw [HB1.out] at o3
           rw [wrE_data HL3.out]
           have O3 := Lib.hid o3
           have G3 := Lib.hid (grown_trans' G0.out g3)
           have R3 := Lib.hid (R0.out.made g3)
           have TK1 := Lib.hid True.intro
           clear o3 g3)
        | (go_at_call 9
           have hx := TK1
           clear hx TK1
           refine (write_any w3 ⟨2, vn, (om : Int), []⟩ none 0 0 rfl (RB.nil_ _ _) (by omega)).mono ?_
           rintro e w4 ⟨v4, rfl, o4, g4⟩
           rw [HB2.out] at o4
           rw [HV.out]
           have O34 := Lib.hid (OwnB.none_ O3.out g4)
           have O4 := Lib.hid o4
           have G4 := Lib.hid (grown_trans' G3.out g4)
           have R4 := Lib.hid (R3.out.made g4)
           have q1 : (convert 22 9 (.slice V ln cv)).run Try.prog w4 = .ok (.string (sb d)) w4 := convB (HVV.out.below (below_of_none G4.out)) HLN.out
           clear o4 g4)
        | (at_builtin
           obtain ⟨A4, c4, hv4, r4, -⟩ := O4.out.shape
           refine wpList_appB byteT rfl (.tmp 60) (.tmp 61) rfl (OwnB.base_ O34.out G0.out.size) r4 (by first | rfl | go_simp) (by rw [hv4]; first | rfl | go_simp) (by have := HBL.out; omega) G4.out.size ?_
           intro v5 w5 o5 g5 _ a5
           have O5 := Lib.hid o5
           have G5 := Lib.hid (grown_row G4.out g5 (fun z hz => by have := (O34.out.lt z hz).1; have := G0.out.size; omega))
           have R5 := Lib.hid (R4.out.mod (Mod.of_grown g5) (fun e => O34.out.ne_cells R4.out.2.1 (by decide) e.symm) (fun g hg e => by have h1 := (R0.out.vlt g hg).2.1; have h2 := (O34.out.lt g e.symm).1; omega))
           have N5 := Lib.hid (show ∀ g, v5.ownBlock = some g → pv.ownBlock ≠ some g from fun g hg e => by
             have h1 := (R0.out.vlt g e).2.1
             rcases a5 with h | h
             · have h2 := (O34.out.lt g (h ▸ hg)).1; omega
             · rw [hg] at h; injection h with h; have h2 := G4.out.size; have h3 := R4.out.lt.2; have h4 := (R4.out.vlt g e).2.1; omega)
           obtain ⟨A5, c5, hv5, -, -⟩ := o5.shape
           obtain ⟨bn, hbn⟩ : ∃ x, (b1 ++ b2).length = x := ⟨_, rfl⟩
           have HBN := Lib.hid hbn
           rw [hbn] at hv5
           subst hv5
           clear o5 g5 a5 r4 hv4 hbn q1))
      have S5 := Lib.hid (show EsB w r W k (b1 ++ b2) (.slice A5 bn c5) (.string (sb W)) (.int .i64 k) (.int .i64 0) w5 from ⟨0, pv, rfl, Nat.zero_le _, by simp [evs, run, datO], rfl, R5.out, O5.out, N5.out, G5.out⟩)
      clear R5 N5 G5 O5 O34 O4 G4 R4 G3 R3 O3
      have hbn := Lib.hid (show (b1 ++ b2).length ≤ 610 by rw [List.length_append]; have := HBL.out; omega)
      generalize b1 ++ b2 = bs at *
      go_loopw [9, 10, 64] (fun s9 s10 s64 wr => EsB w r W k bs (.slice A5 bn c5) s9 s10 s64 wr) (fun _ _ s64 _ => bn - (intOf s64).toNat)
      case atStart => exact S5.out
      case round =>
        obtain ⟨wp, hwp⟩ : ∃ wp : World, wp = wr := ⟨_, rfl⟩
        subst hwp
        obtain ⟨j, pv1, rfl, hj, rfl, rfl, hR, hO, hN, hG⟩ := hrel
        have R6 := Lib.hid hR
        have O6 := Lib.hid hO
        have N6 := Lib.hid hN
        have G6 := Lib.hid hG
        have HJ := Lib.hid hj
        rw [HBN.out] at hj
        clear hR hO hN hG
        by_cases hjl : j < bn
        · have hji : (j : Int) < (bn : Int) := by omega
          have hjb : j < bs.length := by rw [HBN.out]; exact hjl
          obtain ⟨A6, c6, e6, r6, -⟩ := O6.out.shape
          rw [HBN.out] at e6
          injection e6 with e6 _ e7
          subst e6 e7
          obtain ⟨ba, offa, rfl, hba, hca⟩ := r6.open_ (by omega)
          obtain ⟨c, hcv⟩ : ∃ c, c = bs[j] := ⟨_, rfl⟩
          have q2 := hca j hjb
          rw [← hcv] at q2
          have hend : (endT ts0 bs).err = 0 := by rw [HES.out.1]; rfl
          have he0 : (endT ts0 (bs.take j)).err = 0 := err_pre (b := bs.drop j) (by rw [List.take_append_drop]; exact hend)
          have he1 : (endT ts0 (bs.take (j + 1))).err = 0 := err_pre (b := bs.drop (j + 1)) (by rw [List.take_append_drop]; exact hend)
          obtain ⟨t1, t2, t3⟩ := evs_snoc bs j hjb
          rw [← hcv] at t1 t2 t3
          obtain ⟨f1, f2⟩ := feed_one (s := endT ts0 (bs.take j)) (c := c) he0 (by rw [← t1]; exact he1)
          rw [← f1] at t2 t3
          obtain ⟨S, hS⟩ : ∃ S, endT ts0 (bs.take j) = S := ⟨_, rfl⟩
          obtain ⟨G, hGG⟩ : ∃ G, W ++ datO (evs ts0 (bs.take j)) = G := ⟨_, rfl⟩
          obtain ⟨C, hC⟩ : ∃ C, k + cntV (evs ts0 (bs.take j)) = C := ⟨_, rfl⟩
          have HGL := Lib.hid (show G.length ≤ 100000000 by rw [← hGG, List.length_append, datO_len]; have h1 := sumD_evs ok_ts0 (bs.take j); rw [List.length_take] at h1; have := HFL.out; have := HM0.out; have := hbn.out; omega)
          have HCL := Lib.hid (show C ≤ 100000 by rw [← hC]; have h1 := cntV_le (evs ts0 (bs.take j)); have h2 := evs_length ts0 (bs.take j); rw [List.length_take] at h2; have := HM0.out; have := hbn.out; omega)
          have hok : OkT S := by rw [← hS]; exact ok_end _
          rw [hS] at t1 t2 t3 f2 R6 he0
          rw [hGG, hC]
          obtain ⟨x, hx⟩ : ∃ x, (c.toNat : Int) = x := ⟨_, rfl⟩
          have HX := Lib.hid hx
          rw [hx] at q2
          have HJB := Lib.hid (show j + 1 ≤ bn ∧ bn ≤ 610 by have := HBN.out; have := hbn.out; omega)
          have hwj : IntKind.i64.wrap ((j : Int) + 1) = (j : Int) + 1 := by have := HJB.out; simp [IntKind.wrap, IntKind.bits, IntKind.signed]; omega
          have T1 := Lib.hid t1
          have T2 := Lib.hid (show W ++ datO (evs ts0 (bs.take (j + 1))) = G ++ datO (feedT S [c]) by rw [t2, ← hGG, List.append_assoc])
          have T3 := Lib.hid (show k + cntV (evs ts0 (bs.take (j + 1))) = C + cntV (feedT S [c]) by rw [t3, ← hC, Nat.add_assoc])
          have HE1 := Lib.hid (show (endT S [c]).err = 0 by rw [← t1]; exact he1)
          have HF2 := Lib.hid f2
          have HFD := Lib.hid (show sumD (feedT S [c]) ≤ 3000 by
            have h1 := sumD_evs hok [c]
            rw [show feedT S [c] = evs S [c] from by rw [← hS]; exact f1]
            simpa using h1)
          have HOK := Lib.hid hok
          clear hca hcv hend he0 he1 t1 t2 t3 f1 f2 hS hGG hC hx hok hjb r6 hba hj
          go_wp2_with (go_at_call 12
                       refine (feed_any (R6.out.made (grown_alloc wp _ none)) HOK.out (by rw [World.size_alloc]; have := G6.out.size; omega) _ [c] 1 1 rfl (rb1 _ _ c _ HX.out.symm) (RD.apart (R6.out) (Nat.le_refl _)) (by omega)).mono ?_
                       rintro e w7 ⟨pv7, vf7, vs7, rfl, r7, o7, m7, n7, u7⟩
                       rw [HE1.out]
                       obtain ⟨A7, c7, rfl, -, -⟩ := o7.shape
                       obtain ⟨fn, hfn⟩ : ∃ x, (feedT S [c]).length = x := ⟨_, rfl⟩
                       have HFN := Lib.hid hfn
                       rw [hfn]
                       have R7 := Lib.hid r7
                       have O7 := Lib.hid o7
                       have G7 := Lib.hid (none_feed (grown_trans' G6.out (grown_alloc wp _ none)) (R6.out.made (grown_alloc wp _ none)) (Nat.le_refl _) m7)
                       have B7 := Lib.hid ((OwnB.none_ O6.out (grown_alloc wp (.cells #[.int .u8 x] 5) none)).later (R6.out.made (grown_alloc wp (.cells #[.int .u8 x] 5) none)) N6.out m7)
                       have N7 := Lib.hid (show ∀ g, (Value.slice (some ⟨ba, offa, none⟩) bn c5).ownBlock = some g → pv7.ownBlock ≠ some g from fun g hg e => by
                         rcases n7 g e with h | h
                         · exact N6.out g hg h
                         · have := (O6.out.lt g hg).2; rw [World.size_alloc] at h; omega)
                       clear r7 o7 m7 n7 u7 hfn)
          generalize feedT S [c] = ts at *
          go_loopw [9, 10, 87] (fun s9 s10 s87 wq => ∃ i : Nat, s87 = .int .i64 i ∧ i ≤ fn ∧ s9 = .string (sb (G ++ datO (ts.take i))) ∧ s10 = .int .i64 ((C + cntV (ts.take i) : Nat) : Int) ∧ w7.grownBy wq none) (fun _ _ s87 _ => fn - (intOf s87).toNat)
          case atStart => exact ⟨0, rfl, Nat.zero_le _, by simp [datO], rfl, World.grownBy.refl _ _⟩
          case round =>
            obtain ⟨i, rfl, hi', rfl, rfl, hg⟩ := hrel
            have GQ := Lib.hid hg
            by_cases hil : i < fn
            · have hii : (i : Int) < (fn : Int) := by omega
              have o8 := O7.out.none_ hg
              obtain ⟨A8, c8, e8, p8, -, -⟩ := o8.shape
              rw [HFN.out] at e8
              injection e8 with e8 _ e9
              subst e8 e9
              obtain ⟨br, offr, rfl, hbr, hcr⟩ := p8.open_ (by rw [HFN.out]; omega)
              obtain ⟨t, ht⟩ : ∃ t, ts[i]? = some t := ⟨_, List.getElem?_eq_getElem (by rw [HFN.out]; exact hil)⟩
              obtain ⟨a0, a1, a2, U, uc, a3, hU⟩ := hcr i t ht
              have htt : t = ts[i]'(by rw [HFN.out]; exact hil) := by
                have := List.getElem?_eq_getElem (l := ts) (i := i) (by rw [HFN.out]; exact hil)
                rw [ht] at this
                injection this
              obtain ⟨T4, T5⟩ := datO_take ts i (by rw [HFN.out]; exact hil)
              rw [← htt] at T4 T5
              obtain ⟨un, hun⟩ : ∃ x, t.data.length = x := ⟨_, rfl⟩
              rw [hun] at a3
              have HUN := Lib.hid hun
              have HU := Lib.hid hU
              have HT4 := Lib.hid T4
              have HT5 := Lib.hid T5
              obtain ⟨Z, hZ⟩ : ∃ Z, G ++ datO (ts.take i) = Z := ⟨_, rfl⟩
              obtain ⟨D, hD⟩ : ∃ D, C + cntV (ts.take i) = D := ⟨_, rfl⟩
              have HZ := Lib.hid hZ
              have HD := Lib.hid hD
              have hzz : ¬ 9223372036854775807 < (sb Z).size + (sb t.data).size := by
                have e1 : (sb Z).size = Z.length := rfl
                have e2 : (sb t.data).size = t.data.length := rfl
                have h1 := data_le_sum (List.mem_of_getElem? ht)
                have h2 : (datO (ts.take i)).length ≤ sumD ts := by
                  rw [datO_len]
                  conv => rhs; rw [← List.take_append_drop i ts, sumD_app]
                  omega
                rw [e1, e2, ← hZ, List.length_append]
                have := HGL.out; have := HFD.out; omega
              have hDl : D ≤ 1000000 := by rw [← hD]; have h1 := cntV_le (ts.take i); rw [List.length_take] at h1; have := HCL.out; have := HF2.out; omega
              have hwD : IntKind.i64.wrap ((D : Int) + 1) = (D : Int) + 1 := by simp [IntKind.wrap, IntKind.bits, IntKind.signed]; omega
              have hUB := hU.more (Nat.le_refl _)
              rw [hZ, hD]
              have HI := Lib.hid (show i + 1 ≤ fn ∧ fn ≤ 1 by have := HFN.out; have := HF2.out; omega)
              have hwi : IntKind.i64.wrap ((i : Int) + 1) = (i : Int) + 1 := by have := HI.out; simp [IntKind.wrap, IntKind.bits, IntKind.signed]; omega
              obtain ⟨tk, htk⟩ : ∃ x, t.kind = x := ⟨_, rfl⟩
              rw [htk] at a0
              have HTK := Lib.hid htk
              obtain ⟨cs, hcs, hcl, -⟩ := o8.blk (g := br) (by rfl)
              clear hg o8 p8 hbr hcr ht hU htt T4 T5 hun hZ hD htk hcs hcl hUB
              by_cases hk2 : tk = 2
              · have ek : (tk == 2) = true := by rw [beq_iff_eq]; exact hk2
                have HK2 := Lib.hid hk2
                clear hk2
                go_wp2_with (first
                    | (refine wpList_storeC (off := 0) (p := [.int .i64 tk, .int .i64 t.verb, .int .i64 t.opt, .slice U un uc]) szT rfl (.tmp 22) (.tmp 90) rfl (.agg #[.int .i64 tk, .int .i64 t.verb, .int .i64 t.opt, .slice U un uc]) rfl (fun u hu => by simp at hu; rcases hu with rfl | rfl | rfl | rfl <;> rfl) (CB.new wr 24 [.int .i64 0, .int .i64 0, .int .i64 0, .slice none 0 0]) rfl (by simp) (by first | rfl | go_simp) (by first | rfl | go_simp) ?_
                       intro w9 h9 g9
                       have N9 := Lib.hid (grown_trans' GQ.out (grown_row (grown_alloc wr (.cells #[.int .i64 0, .int .i64 0, .int .i64 0, .slice none 0 0] 24) none) g9 (fun z hz => by injection hz with hz; omega)))
                       have N89 := Lib.hid (grown_row (grown_alloc wr (.cells #[.int .i64 0, .int .i64 0, .int .i64 0, .slice none 0 0] 24) none) g9 (fun z hz => by injection hz with hz; omega))
                       have D9 := Lib.hid (show CB w9 wr.heap.size 24 [.int .i64 tk, .int .i64 t.verb, .int .i64 t.opt, .slice U un uc] from h9)
                       have d0 : w9.cell? ⟨wr.heap.size, 0, none⟩ = some (.int .i64 tk) := D9.out.at_ rfl
                       have d3 : w9.cell? ⟨wr.heap.size, 3, none⟩ = some (.slice U un uc) := D9.out.at_ rfl
                       have q3 : (convert 22 9 (.slice U un uc)).run Try.prog w9 = .ok (.string (sb t.data)) w9 := convB (HU.out.below (below_of_none N89.out)) HUN.out
                       clear h9 g9 a0 a1 a2 a3))
                go_roundw
                case rel => exact ⟨i + 1, by first | rfl | go_num, by have := HI.out; omega, by rw [HT4.out, ← List.append_assoc, HZ.out, sb_app], by rw [HT5.out, if_pos (HTK.out.trans HK2.out), ← Nat.add_assoc, HD.out]; first | rfl | go_num, N9.out⟩
                case measure => have := HI.out; simp [intOf]; omega
              · have ek : (tk == 2) = false := by rw [beq_eq_false_iff_ne]; exact hk2
                have HK2 := Lib.hid hk2
                clear hk2
                go_wp2_with (first
                    | (refine wpList_storeC (off := 0) (p := [.int .i64 tk, .int .i64 t.verb, .int .i64 t.opt, .slice U un uc]) szT rfl (.tmp 22) (.tmp 90) rfl (.agg #[.int .i64 tk, .int .i64 t.verb, .int .i64 t.opt, .slice U un uc]) rfl (fun u hu => by simp at hu; rcases hu with rfl | rfl | rfl | rfl <;> rfl) (CB.new wr 24 [.int .i64 0, .int .i64 0, .int .i64 0, .slice none 0 0]) rfl (by simp) (by first | rfl | go_simp) (by first | rfl | go_simp) ?_
                       intro w9 h9 g9
                       have N9 := Lib.hid (grown_trans' GQ.out (grown_row (grown_alloc wr (.cells #[.int .i64 0, .int .i64 0, .int .i64 0, .slice none 0 0] 24) none) g9 (fun z hz => by injection hz with hz; omega)))
                       have N89 := Lib.hid (grown_row (grown_alloc wr (.cells #[.int .i64 0, .int .i64 0, .int .i64 0, .slice none 0 0] 24) none) g9 (fun z hz => by injection hz with hz; omega))
                       have D9 := Lib.hid (show CB w9 wr.heap.size 24 [.int .i64 tk, .int .i64 t.verb, .int .i64 t.opt, .slice U un uc] from h9)
                       have d0 : w9.cell? ⟨wr.heap.size, 0, none⟩ = some (.int .i64 tk) := D9.out.at_ rfl
                       have d3 : w9.cell? ⟨wr.heap.size, 3, none⟩ = some (.slice U un uc) := D9.out.at_ rfl
                       have q3 : (convert 22 9 (.slice U un uc)).run Try.prog w9 = .ok (.string (sb t.data)) w9 := convB (HU.out.below (below_of_none N89.out)) HUN.out
                       clear h9 g9 a0 a1 a2 a3))
                go_roundw
                case rel => exact ⟨i + 1, by first | rfl | go_num, by have := HI.out; omega, by rw [HT4.out, ← List.append_assoc, HZ.out, sb_app], by rw [HT5.out, if_neg (fun e => HK2.out (HTK.out.symm.trans e)), ← Nat.add_assoc, HD.out]; first | rfl | go_num, N9.out⟩
                case measure => have := HI.out; simp [intOf]; omega
            · obtain rfl : i = fn := by omega
              have hii : ¬ (i : Int) < (i : Int) := by omega
              have hlt' : ts.take i = ts := List.take_of_length_le (by rw [HFN.out]; exact Nat.le_refl _)
              rw [hlt', ← T2.out, ← T3.out]
              clear hg hlt'
              go_wp2
              go_roundw
              case rel => exact ⟨j + 1, pv7, by first | rfl | go_num, by have := HBN.out; have := HJB.out; omega, rfl, rfl, by rw [T1.out]; exact R7.out.made GQ.out, OwnB.none_ B7.out GQ.out, N7.out, grown_trans' G7.out GQ.out⟩
              case measure => have := HJB.out; simp [intOf]; omega
        · obtain rfl : j = bn := by omega
          have hji : ¬ (j : Int) < (j : Int) := by omega
          have hlt' : bs.take j = bs := List.take_of_length_le (by rw [HBN.out]; exact Nat.le_refl _)
          have HK1 := Lib.hid (show RD wp w.heap.size r pv1 ts0 by have := R6.out; rw [hlt', HES.out.1] at this; exact this)
          rw [hlt', HES.out.2.1, HES.out.2.2]
          clear hlt'
          go_wp2
          go_roundw
          case rel => exact ⟨k + 1, pv1, by go_num, by omega, by rw [HFT.out, sb_app], by rw [HFT.out], by first | rfl | go_num, by rw [HFT.out, List.length_append]; have := HFL.out; have := HL3.out; omega, HK1.out, G6.out⟩
          case measure => simp [intOf]; omega
    · obtain rfl : k = m0 := by omega
      have hki : ¬ (k : Int) < (k : Int) := by omega
      go_wp2
      go_ret
      exact ⟨rfl, below_of_none G0.out⟩
end Go.Proofs.Ytcfhpoigfkljpaa
