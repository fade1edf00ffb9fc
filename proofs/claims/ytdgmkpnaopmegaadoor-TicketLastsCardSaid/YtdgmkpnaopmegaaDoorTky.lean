/- The walks of TicketValid and TicketLasts. -/
import Derived.Test.YtdgmkpnaopmegaaDoorTkx
namespace Go.Proofs.YtdgmkpnaopmegaaDoor
open Go.RowKit

theorem wp_loadC {P : Program} {w : World} {o : Oper} {a : Act} {K : Act → World → Prop} {Q : Exit → Act → World → Prop} {ty t : TypeId} {n g off : Nat} {cs p : List Value} (hT : AggT P ty n) (x : Operand) (ho : o.op = .load ty x) (h : CB w g t cs) (hp : (cs.drop off).take n = p) (hl : off + n ≤ cs.length) (hx : a.eval x = .pointer (some ⟨g, off, none⟩))
    (hk : K (a.put o.dst (.agg p.toArray)) w) : o.wp P a w K Q := by
  unfold Oper.wp execOp
  simp only [ho, hx, Instr.loadAt, Instr.sureAddr, Sem.run_bind, Sem.run_pure, Result.andThen_ok, run_loadC hT h hp hl]
  exact hk
theorem lawValid (CS : List Value) (c s : ByteArray) (k : List UInt8) (st en fl now V : Int) (hcs : CS = tcells c s k st en fl) (hv : validOf st en now = V) (w : World) (hk : k.length = 16) (h1 : I64 st) (h2 : I64 en) (h3 : I64 now) :
    Calls Tryd.prog 24 #[.agg CS.toArray, .int .i64 now] w fun e w' => e = .returned (.int .i64 V) ∧ w.grownBy w' none := by
  subst hcs hv
  exact valid_any c s k st en fl now w hk h1 h2 h3
theorem lawRefValid (CS : List Value) (c s : ByteArray) (k : List UInt8) (st en fl now V : Int) (hcs : CS = tcells c s k st en fl) (hv : validOf st en now = V) (w : World) (hk : k.length = 16) (h1 : I64 st) (h2 : I64 en) (h3 : I64 now) :
    Calls Tryd.prog 25 #[.agg CS.toArray, .int .i64 now] w fun e w' => e = .returned (.int .i64 V) ∧ w.grownBy w' none := by
  subst hcs hv
  exact refValid_any c s k st en fl now w hk h1 h2 h3
theorem I64.of {n : Int} (h : (Lit.int .i64 n).wf = true) : I64 n := by
  have := bounds_i64 h
  unfold I64
  omega

def TkvF (CS : List Value) (now V : Int) : Nat → Value → World → Prop
  | 0, v, _ => v = .agg CS.toArray
  | 1, v, _ => v = .int .i64 now
  | 2, v, _ => v = .int .i64 V
  | 3, v, _ => v = .agg CS.toArray
  | 4, v, _ => v = .int .i64 now
  | 5, v, _ => v = .int .i64 V
  | 6, v, _ => v = .bool true
  | 7, v, _ => v = .bool true
  | _, _, _ => True
theorem TkvF.kept {CS : List Value} {now V : Int} : ∀ (j : Nat) (v : Value) (x y : World), TkvF CS now V j v x → TkvF CS now V j v y
  | 0, _, _, _, h => h
  | 1, _, _, _, h => h
  | 2, _, _, _, h => h
  | 3, _, _, _, h => h
  | 4, _, _, _, h => h
  | 5, _, _, _, h => h
  | 6, _, _, _, h => h
  | 7, _, _, _, h => h
  | _ + 8, _, _, _, _ => by simp [TkvF]

set_option maxRecDepth 10000 in
set_option maxHeartbeats 1000000 in
theorem walk_TicketValid (w : World) (hM : ML w) (st : Int) (w1 : (Lit.int .i64 st).wf = true) (en : Int) (w2 : (Lit.int .i64 en).wf = true) (now : Int) (w3 : (Lit.int .i64 now).wf = true) :
    Calls Tryd.prog 6 #[.int .i64 st, .int .i64 en, .int .i64 now] w fun e w' => e = .returned (.bool true) ∧ Below w.heap.size w w' := by
  have HM := Lib.hid hM
  have I1 := Lib.hid (I64.of w1)
  have I2 := Lib.hid (I64.of w2)
  have I3 := Lib.hid (I64.of w3)
  obtain ⟨c, hc⟩ : ∃ c : ByteArray, c = ⟨#[]⟩ := ⟨_, rfl⟩
  obtain ⟨s, hs⟩ : ∃ s : ByteArray, s = ⟨#[]⟩ := ⟨_, rfl⟩
  obtain ⟨k, hk⟩ : ∃ k, k = zeros 16 := ⟨_, rfl⟩
  obtain ⟨fl, hfl⟩ : ∃ fl : Int, fl = 0 := ⟨_, rfl⟩
  obtain ⟨CS, hcs⟩ : ∃ CS, CS = tcells c s k st en fl := ⟨_, rfl⟩
  obtain ⟨ZS, hzs⟩ : ∃ ZS, ZS = tcells ⟨#[]⟩ ⟨#[]⟩ (zeros 16) 0 0 0 := ⟨_, rfl⟩
  obtain ⟨V, hV⟩ : ∃ V, validOf st en now = V := ⟨_, rfl⟩
  have HV := Lib.hid hV
  have HK := Lib.hid (show k.length = 16 by rw [hk]; exact zeros_length 16)
  have HCS := Lib.hid hcs
  have HCZ := Lib.hid (show (Value.agg #[.string ⟨#[]⟩, .string ⟨#[]⟩, .int .u8 0, .int .u8 0, .int .u8 0, .int .u8 0, .int .u8 0, .int .u8 0, .int .u8 0, .int .u8 0, .int .u8 0, .int .u8 0, .int .u8 0, .int .u8 0, .int .u8 0, .int .u8 0, .int .u8 0, .int .u8 0, .int .i64 st, .int .i64 en, .int .i64 0]).cells = CS.toArray by rw [hcs, hc, hs, hk, hfl]; kernel_rfl)
  have HCL := Lib.hid (show CS.length = 21 by rw [hcs, tcells_length _ _ _ _ _ _ HK.out])
  have HZL := Lib.hid (show ZS.length = 21 by rw [hzs, tcells_length _ _ _ _ _ _ (zeros_length 16)])
  have HZ := Lib.hid (show ∀ W, (zeroValue 25).run Tryd.prog W = .ok (.agg ZS.toArray) W by rw [hzs]; exact zeroT)
  have HTK := Lib.hid (show (CS.drop 0).take 21 = CS by rw [hcs]; exact take_t _ _ _ _ _ _ HK.out)
  have HON := Lib.hid (show ∀ u ∈ CS, u.oneCell' = true by rw [hcs]; exact tcells_one _ _ _ _ _ _)
  clear hM w1 w2 w3 hcs hzs hc hs hk hfl hV
  go_enter Tryd.func6, Tryd.ntmps6
  go_wp2_with (first
    | (go_at_call 10; refine (speaks_any _ HM.out).mono ?_; rintro e wa ⟨rfl, ga⟩; have GA := Lib.hid ga; clear ga)
    | refine wpList_allocC HZ.out rfl rfl ?_
    | (refine wpList_storeC (off := 0) (p := CS) aggT.hi rfl (.tmp 7) (.tmp 12) rfl _ HCZ.out HON.out (CB.new wa 25 ZS) HCL.out (by have h1 := HZL.out; have h2 := HCL.out; omega) (by first | rfl | go_simp) rfl ?_; intro wb h2 g2; rw [over_all _ _ (Nat.le_of_eq (by rw [HZL.out, HCL.out]))] at h2; have B2 := Lib.hid h2; have G2 := Lib.hid (none_new (grown_trans' GA.out (grown_alloc wa (.cells ZS.toArray 25) none)) g2 GA.out.size); clear h2 g2))
  have hbb : (V == V) = true := by simp
  generalize wa.heap.size = g7 at *
  refine Inv.region_made (n := 8) (ds := [some 13, some 14, some 15, some 16, some 17, some 18, some 19, some 6]) (fun x => CB x g7 25 CS ∧ w.grownBy x none) (TkvF CS now V) (by kernel_rfl) (by kernel_rfl) rfl (by kernel_rfl) (fun _ _ hg h => ⟨h.1.kept hg, grown_trans' h.2 hg⟩) (fun j v x y _ _ h => TkvF.kept j v x y h) ⟨B2.out.drew, grown_drew G2.out⟩ ⟨⟨⟨⟨⟨⟨⟨⟨trivial, ?_⟩, ?_⟩, ?_⟩, ?_⟩, ?_⟩, ?_⟩, ?_⟩, ?_⟩ ?_
  · refine Inv.duty_plain rfl rfl (fun L vs a x hG dep up val ev out K hK => ?_)
    obtain ⟨hB, hW⟩ := hG
    have e7 : a.eval (.tmp 7) = .pointer (some ⟨g7, 0, none⟩) := (out 7 (by kernel_rfl)).trans rfl
    refine wp_loadC aggT (.tmp 7) rfl hB HTK.out (by have h2 := HCL.out; omega) e7 (hK.out _ _ (World.grownBy.refl x _) rfl)
  · refine Inv.duty_plain rfl rfl (fun L vs a x hG dep up val ev out K hK => ?_)
    obtain ⟨hB, hW⟩ := hG
    have e2 : a.eval (.tmp 2) = .int .i64 now := (out 2 (by kernel_rfl)).trans rfl
    refine Inv.wp_value (v := .int .i64 now) ?_ (hK.out _ _ (World.grownBy.refl x _) rfl)
    clear hK K dep up val ev out
    generalize a.eval = ρ at *
    (simp [execOp, go_sem, *]; done)
  · refine Inv.duty_plain rfl rfl (fun L vs a x hG dep up val ev out K hK => ?_)
    obtain ⟨hB, hW⟩ := hG
    have ef : ∀ f, a.eval (.func f) = .func (.func f) #[] #[] := fun _ => rfl
    have L13 := dep 0 (by kernel_rfl)
    have e13 : a.eval (.tmp 13) = .agg CS.toArray := (ev 0 13 L13 (by kernel_rfl)).trans (val 0 L13)
    have L14 := dep 1 (by kernel_rfl)
    have e14 : a.eval (.tmp 14) = .int .i64 now := (ev 1 14 L14 (by kernel_rfl)).trans (val 1 L14)
    refine Inv.wp_call (by clear hK K dep up val ev out; generalize a.eval = ρ at *; (simp [execOp, go_sem, *]; done)) ((lawValid CS c s k st en fl now V HCS.out HV.out x HK.out I1.out I2.out I3.out).mono ?_)
    rintro e w' ⟨rfl, g⟩
    exact ⟨_, rfl, hK.out _ _ g rfl⟩
  · refine Inv.duty_plain rfl rfl (fun L vs a x hG dep up val ev out K hK => ?_)
    obtain ⟨hB, hW⟩ := hG
    have e7 : a.eval (.tmp 7) = .pointer (some ⟨g7, 0, none⟩) := (out 7 (by kernel_rfl)).trans rfl
    refine wp_loadC aggT (.tmp 7) rfl hB HTK.out (by have h2 := HCL.out; omega) e7 (hK.out _ _ (World.grownBy.refl x _) rfl)
  · refine Inv.duty_plain rfl rfl (fun L vs a x hG dep up val ev out K hK => ?_)
    obtain ⟨hB, hW⟩ := hG
    have e2 : a.eval (.tmp 2) = .int .i64 now := (out 2 (by kernel_rfl)).trans rfl
    refine Inv.wp_value (v := .int .i64 now) ?_ (hK.out _ _ (World.grownBy.refl x _) rfl)
    clear hK K dep up val ev out
    generalize a.eval = ρ at *
    (simp [execOp, go_sem, *]; done)
  · refine Inv.duty_plain rfl rfl (fun L vs a x hG dep up val ev out K hK => ?_)
    obtain ⟨hB, hW⟩ := hG
    have ef : ∀ f, a.eval (.func f) = .func (.func f) #[] #[] := fun _ => rfl
    have L16 := dep 3 (by kernel_rfl)
    have e16 : a.eval (.tmp 16) = .agg CS.toArray := (ev 3 16 L16 (by kernel_rfl)).trans (val 3 L16)
    have L17 := dep 4 (by kernel_rfl)
    have e17 : a.eval (.tmp 17) = .int .i64 now := (ev 4 17 L17 (by kernel_rfl)).trans (val 4 L17)
    refine Inv.wp_call (by clear hK K dep up val ev out; generalize a.eval = ρ at *; (simp [execOp, go_sem, *]; done)) ((lawRefValid CS c s k st en fl now V HCS.out HV.out x HK.out I1.out I2.out I3.out).mono ?_)
    rintro e w' ⟨rfl, g⟩
    exact ⟨_, rfl, hK.out _ _ g rfl⟩
  · refine Inv.duty_plain rfl rfl (fun L vs a x hG dep up val ev out K hK => ?_)
    obtain ⟨hB, hW⟩ := hG
    have L15 := dep 2 (by kernel_rfl)
    have e15 : a.eval (.tmp 15) = .int .i64 V := (ev 2 15 L15 (by kernel_rfl)).trans (val 2 L15)
    have L18 := dep 5 (by kernel_rfl)
    have e18 : a.eval (.tmp 18) = .int .i64 V := (ev 5 18 L18 (by kernel_rfl)).trans (val 5 L18)
    refine Inv.wp_value (v := .bool true) ?_ (hK.out _ _ (World.grownBy.refl x _) rfl)
    clear hK K dep up val ev out
    generalize a.eval = ρ at *
    (simp [execOp, go_sem, *]; done)
  · refine Inv.duty_plain rfl rfl (fun L vs a x hG dep up val ev out K hK => ?_)
    obtain ⟨hB, hW⟩ := hG
    have L19 := dep 6 (by kernel_rfl)
    have e19 : a.eval (.tmp 19) = .bool true := (ev 6 19 L19 (by kernel_rfl)).trans (val 6 L19)
    refine Inv.wp_value (v := .bool true) ?_ (hK.out _ _ (World.grownBy.refl x _) rfl)
    clear hK K dep up val ev out
    generalize a.eval = ρ at *
    (simp [execOp, go_sem, *]; done)
  intro vs w' hG hv
  have hZ : vs 7 = .bool true := hv 7 (by omega)
  simp only [Inv.putAll, Act.put, List.setIfInBounds_toArray, List.set_cons_zero, List.set_cons_succ, Nat.zero_add, Nat.reduceAdd]
  rw [hZ]
  clear hv
  have HG := Lib.hid hG.2
  clear hZ hG hbb
  go_wp2
  go_ret
  exact ⟨rfl, below_of_none HG.out⟩

/-! TicketLasts. -/
def okD (st en now d : Int) : Bool := decide (-10 < d) && (decide (now - 10 ≤ en) && decide (st ≤ now + d - 1))
theorem okD_start (st en now : Int) : okD st en now (-10) = false := by simp [okD]
theorem okD_next (st en now d : Int) (hd : -10 ≤ d) (h : st ≤ en) : okD st en now (d + 1) = (okD st en now d || (decide (st ≤ now + d) && decide (now + d ≤ en))) := by
  rw [Bool.eq_iff_iff]
  simp only [okD, Bool.and_eq_true, Bool.or_eq_true, decide_eq_true_eq]
  omega
theorem okD_end (st en now : Int) : okD st en now 11 = (validOf st en now == 0) := by
  unfold validOf
  rw [Bool.eq_iff_iff]
  simp only [okD, far, Bool.and_eq_true, decide_eq_true_eq, beq_iff_eq]
  constructor
  · intro h
    rw [if_neg (by omega), if_neg (by omega)]
  · intro h
    by_cases h1 : now < st ∧ 10 < st - now
    · rw [if_pos h1] at h; omega
    · rw [if_neg h1] at h
      by_cases h2 : en < now ∧ 10 < now - en
      · rw [if_pos h2] at h; omega
      · omega
end Go.Proofs.YtdgmkpnaopmegaaDoor
