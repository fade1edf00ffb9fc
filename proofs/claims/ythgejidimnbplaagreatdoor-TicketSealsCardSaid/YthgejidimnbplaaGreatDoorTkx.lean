/- The walks of ticket's Valid, of the document's, of the examples; of the laws on times. -/
import Derived.Test.YthgejidimnbplaaGreatDoorTkw
namespace Go.Proofs.YthgejidimnbplaaGreatDoor
open Go.RowKit

set_option maxHeartbeats 1000000 in
theorem valid_any (c s : ByteArray) (k : List UInt8) (st en fl now : Int) (w : World) (hk : k.length = 16) (h1 : I64 st) (h2 : I64 en) (h3 : I64 now) :
    Calls Tryz.prog 13 #[.agg (tcells c s k st en fl).toArray, .int .i64 now] w fun e w' => e = .returned (.int .i64 (validOf st en now)) ∧ w.grownBy w' none := by
  have q1 := (CB.new w 25 (tcells c s k st en fl)).at_ (tcells_st c s k st en fl hk)
  have q2 := (CB.new w 25 (tcells c s k st en fl)).at_ (tcells_en c s k st en fl hk)
  have HG := Lib.hid (grown_alloc w (.cells (tcells c s k st en fl).toArray 25) none)
  have I1 := Lib.hid h1
  have I2 := Lib.hid h2
  have I3 := Lib.hid h3
  have TK0 := Lib.hid True.intro
  unfold validOf
  cases hf1 : far st now with
  | true =>
    have H1 := Lib.hid hf1
    rw [if_pos rfl]
    clear h1 h2 h3 hk hf1
    go_enter Tryz.func13, Tryz.ntmps13
    go_wp2_with (go_at_call 27; refine (farAbove_any st now _ I1.out I3.out).mono ?_; rintro e w1 ⟨rfl, rfl⟩; rw [H1.out])
    go_ret
    exact ⟨rfl, HG.out⟩
  | false =>
    rw [if_neg (by simp)]
    cases hf2 : far now en with
    | true =>
      have H1 := Lib.hid hf1
      have H2 := Lib.hid hf2
      rw [if_pos rfl]
      clear h1 h2 h3 hk hf1 hf2
      go_enter Tryz.func13, Tryz.ntmps13
      go_wp2_with (first
        | (go_at_call 27; have hx := TK0; clear hx; refine (farAbove_any st now _ I1.out I3.out).mono ?_; rintro e w1 ⟨rfl, rfl⟩; rw [H1.out]; clear TK0)
        | (go_at_call 27; refine (farAbove_any now en _ I3.out I2.out).mono ?_; rintro e w2 ⟨rfl, rfl⟩; rw [H2.out]))
      go_ret
      exact ⟨rfl, HG.out⟩
    | false =>
      have H1 := Lib.hid hf1
      have H2 := Lib.hid hf2
      rw [if_neg (by simp)]
      clear h1 h2 h3 hk hf1 hf2
      go_enter Tryz.func13, Tryz.ntmps13
      go_wp2_with (first
        | (go_at_call 27; have hx := TK0; clear hx; refine (farAbove_any st now _ I1.out I3.out).mono ?_; rintro e w1 ⟨rfl, rfl⟩; rw [H1.out]; clear TK0)
        | (go_at_call 27; refine (farAbove_any now en _ I3.out I2.out).mono ?_; rintro e w2 ⟨rfl, rfl⟩; rw [H2.out]))
      go_ret
      exact ⟨rfl, HG.out⟩

/-! The examples. -/
theorem aggT : AggT Tryz.prog 25 21 := ⟨fun w => by kernel_rfl, by kernel_rfl⟩
theorem zeroT (w : World) : (zeroValue 25).run Tryz.prog w = .ok (.agg (tcells ⟨#[]⟩ ⟨#[]⟩ (zeros 16) 0 0 0).toArray) w := by kernel_rfl
theorem tcells_one (c s : ByteArray) (k : List UInt8) (st en fl : Int) : ∀ u ∈ tcells c s k st en fl, u.oneCell' = true := by
  intro u hu
  simp only [tcells, List.mem_append, List.mem_cons, List.not_mem_nil, or_false] at hu
  rcases hu with ((rfl | rfl) | h) | rfl | rfl | rfl
  · rfl
  · rfl
  · exact bcells_one _ u h
  · rfl
  · rfl
  · rfl
theorem over_t {cs : List Value} (c s : ByteArray) (k : List UInt8) (st en fl : Int) (hk : k.length = 16) (h : cs.length = 21) : over cs 0 (tcells c s k st en fl) = tcells c s k st en fl :=
  over_all _ _ (by rw [tcells_length _ _ _ _ _ _ hk, h]; exact Nat.le_refl _)
theorem take_t (c s : ByteArray) (k : List UInt8) (st en fl : Int) (hk : k.length = 16) : ((tcells c s k st en fl).drop 0).take 21 = tcells c s k st en fl := by
  rw [List.drop_zero]; exact List.take_of_length_le (by rw [tcells_length _ _ _ _ _ _ hk]; exact Nat.le_refl _)
def sA : ByteArray := ⟨#[97, 64, 82]⟩
def sB : ByteArray := ⟨#[98, 64, 82]⟩
theorem sA_ok : parses sA.data.toList = true := by decide +kernel
theorem sB_ok : parses sB.data.toList = true := by decide +kernel

/-- The example's ticket is written, and may be used as it says. -/
theorem speakW (CS : List Value) (hcs : CS = tcells sA sB (zeros 16) 100 200 0) (w : World) (hM : ML w) :
    Calls Tryz.prog 12 #[.agg CS.toArray] w fun e w' => ∃ A c n, e = .returned (.tuple #[.slice A n c, .int .i64 0]) ∧ 0 < n ∧ w.grownBy w' none := by
  subst hcs
  have h := twrite_yes sA sB _ _ (zeros 16) 100 200 0 w hM rfl rfl (zeros_length 16) sA_ok sB_ok (by decide) (by decide)
  refine h.mono fun e w' h => ?_
  obtain ⟨v, rfl, ⟨A, c, rfl, _⟩, hg⟩ := h
  exact ⟨A, c, _, rfl, by decide +kernel, hg⟩
theorem speakV (CS : List Value) (hcs : CS = tcells sA sB (zeros 16) 100 200 0) (now : Int) (w : World) (h : I64 now) :
    Calls Tryz.prog 13 #[.agg CS.toArray, .int .i64 now] w fun e w' => e = .returned (.int .i64 (validOf 100 200 now)) ∧ w.grownBy w' none := by
  subst hcs
  exact valid_any sA sB (zeros 16) 100 200 0 now w (zeros_length 16) (by unfold I64; omega) (by unfold I64; omega) h

set_option maxRecDepth 10000 in
set_option maxHeartbeats 1000000 in
theorem speaks_any (w : World) (hM : ML w) : Calls Tryz.prog 4 #[] w fun e w' => e = .returned (.bool true) ∧ w.grownBy w' none := by
  have HM := Lib.hid hM
  have hv1 : validOf 100 200 89 = 64 := rfl
  have hv2 : validOf 100 200 90 = 0 := rfl
  have hv3 : validOf 100 200 210 = 0 := rfl
  have hv4 : validOf 100 200 211 = 63 := rfl
  have T0 := Lib.hid True.intro
  obtain ⟨CS, hcs⟩ : ∃ CS, CS = tcells sA sB (zeros 16) 100 200 0 := ⟨_, rfl⟩
  obtain ⟨ZS, hzs⟩ : ∃ ZS, ZS = tcells ⟨#[]⟩ ⟨#[]⟩ (zeros 16) 0 0 0 := ⟨_, rfl⟩
  have HCS := Lib.hid hcs
  have HCL := Lib.hid (show CS.length = 21 by rw [hcs, tcells_length _ _ _ _ _ _ (zeros_length 16)])
  have HZL := Lib.hid (show ZS.length = 21 by rw [hzs, tcells_length _ _ _ _ _ _ (zeros_length 16)])
  have HZ := Lib.hid (show ∀ W, (zeroValue 25).run Tryz.prog W = .ok (.agg ZS.toArray) W by rw [hzs]; exact zeroT)
  have HTK := Lib.hid (show (CS.drop 0).take 21 = CS by rw [hcs]; exact take_t _ _ _ _ _ _ (zeros_length 16))
  have HON := Lib.hid (show ∀ u ∈ CS, u.oneCell' = true by rw [hcs]; exact tcells_one _ _ _ _ _ _)
  clear hM hcs hzs
  go_enter Tryz.func4, Tryz.ntmps4
  go_wp2_with (first
    | refine wpList_allocC HZ.out rfl rfl ?_
    | (refine wpList_storeC (off := 0) (p := CS) aggT.hi rfl (.tmp 1) (.tmp 4) rfl _ (by rw [HCS.out]; kernel_rfl) HON.out (CB.new w 25 ZS) HCL.out (by have h1 := HZL.out; have h2 := HCL.out; omega) (by first | rfl | go_simp) rfl ?_; intro w2 h2 g2; rw [over_all _ _ (Nat.le_of_eq (by rw [HZL.out, HCL.out]))] at h2; have B2 := Lib.hid h2; have G2 := Lib.hid (none_new (grown_alloc w (.cells ZS.toArray 25) none) g2 (Nat.le_refl _)); clear h2 g2)
    | (have hx := T0; clear hx; refine wpList_loadC (off := 0) (p := CS) aggT rfl (.tmp 1) rfl B2.out HTK.out (by have h2 := HCL.out; omega) (by first | rfl | go_simp) ?_)
    | (go_at_call 12; refine (speakW CS HCS.out _ (HM.out.below (below_of_none G2.out))).mono ?_; rintro e w3 ⟨A3, c3, n3, rfl, hn3, g3⟩; have B3 := Lib.hid (B2.out.kept g3); have G3 := Lib.hid (grown_trans' G2.out g3); clear g3 T0)
    | (go_at_call 13; refine (speakV CS HCS.out _ _ (by unfold I64; omega)).mono ?_; rintro e w4 ⟨rfl, g4⟩; have B4 := Lib.hid (B3.out.kept g4); have G4 := Lib.hid (grown_trans' G3.out g4); clear g4 B3 G3; have B3 := Lib.hid B4.out; have G3 := Lib.hid G4.out; clear B4 G4)
    | refine wpList_loadCg (off := 0) (p := CS) aggT (by first | rfl | go_simp) (.tmp 1) rfl B3.out HTK.out (by have h2 := HCL.out; omega) (by first | rfl | go_simp) ?_)
  go_ret
  exact ⟨rfl, G3.out⟩
theorem wp_loadCx {P : Program} {w : World} {o : Oper} {a : Act} {K : Act → World → Prop} {Q : Exit → Act → World → Prop} {ty t : TypeId} {n g off : Nat} {cs p : List Value} (hT : AggT P ty n) (x : Operand) (ho : o.op = .load ty x) (h : CB w g t cs) (hp : (cs.drop off).take n = p) (hl : off + n ≤ cs.length) (hx : a.eval x = .pointer (some ⟨g, off, none⟩))
    (hk : K (a.put o.dst (.agg p.toArray)) w) : o.wp P a w K Q := by
  unfold Oper.wp execOp
  simp only [ho, hx, Instr.loadAt, Instr.sureAddr, Sem.run_bind, Sem.run_pure, Result.andThen_ok, run_loadC hT h hp hl]
  exact hk
theorem I64.of {n : Int} (h : (Lit.int .i64 n).wf = true) : I64 n := by
  have := bounds_i64 h
  unfold I64
  omega
end Go.Proofs.YthgejidimnbplaaGreatDoor
