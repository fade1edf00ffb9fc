/- The walks of maps.DeleteFunc at a memory of authenticators, and of forget. -/
import Derived.Test.YtgamlioahdbikaaRyb
namespace Go.Proofs.Ytgamlioahdbikaa
open Go.RowKit Go.Maps

/-- Is what a key reads as one of these that is old? -/
def pdA (P : Program) (k : TypeId) (M : List Au) (now : Int) (kl : Lit) (_ : DataW Value) : Bool := M.any fun a => (litOf P k auV a).sameKey kl && far now a.2.1
theorem pdA_at {M : List Au} (hok : ∀ a ∈ M, auOk a) {now : Int} {a : Au} (ha : a ∈ M) (d : DataW Value) : pdA Try.prog 35 M now (litOf Try.prog 35 auV a) d = far now a.2.1 := by
  unfold pdA
  rw [Bool.eq_iff_iff, List.any_eq_true]
  constructor
  · rintro ⟨x, hx, h⟩
    rw [Bool.and_eq_true] at h
    have := lit_inj keyedA auV_inj (key_au x (hok x hx)) (key_au a (hok a ha)) (WideAt.sameKey_eq h.1)
    rw [← this]
    exact h.2
  · intro h
    exact ⟨a, ha, by rw [h, WideAt.sameKey_self (keyedA.key (key_au a (hok a ha)))]; rfl⟩
theorem keep_setM (M : List Au) (now : Int) : (setM M).filter (fun p => !far now p.1.2.1) = setM (keepA now M) := filter_setM M (fun a => !far now a.2.1)
/-- What comes out of the map is one of its entries. -/
theorem came_of {M : List Au} {left : Lit → Bool} {kl : Lit} {y : DataW Value} {es : List (Lit × DataW Value)} (hes : (datM Try.prog 35 auV uV (setM M)) = .map es) {pd : Lit → DataW Value → Bool} (hat : ∀ zd, (Fk pd es left).atKey kl zd = y) :
    ∃ a ∈ M, litOf Try.prog 35 auV a = kl ∧ y = .held (.agg #[]) := by
  have hh : Maps.has (Fk pd es left) kl = true := has_true_of_atKey hat
  obtain ⟨p, hp, hs⟩ := List.any_eq_true.1 hh
  have hpe := (List.mem_filter.1 hp).1
  unfold datM at hes
  have e : ((setM M).map (ent Try.prog 35 auV uV)).foldr DataW.insert [] = es := by injection hes
  rw [← e] at hpe
  obtain ⟨x, hx, rfl⟩ := List.mem_map.1 (mem_sorted.1 hpe)
  have hk : litOf Try.prog 35 auV x.1 = kl := WideAt.sameKey_eq hs
  refine ⟨x.1, mem_setM.1 hx, hk, ?_⟩
  have hf : (Fk pd es left).atKey kl .nil ≠ .nil := by
    intro hn
    have h2 := hat .nil
    have h3 := hat (.held (.agg #[]))
    rw [hn] at h2
    subst h2
    unfold Fk DataW.atKey at h3 hn
    simp only at h3 hn
    cases hq : (List.filter (fun p => !pd p.1 p.2 || left p.1) es).find? (fun p => p.1.sameKey kl) with
    | none => rw [hq] at h3; cases h3
    | some q =>
      rw [hq] at h3
      have hqm := (List.mem_filter.1 (List.mem_of_find?_eq_some hq)).1
      rw [← e] at hqm
      obtain ⟨z, _, rfl⟩ := List.mem_map.1 (mem_sorted.1 hqm)
      cases h3
  have h2 := hat .nil
  unfold Fk DataW.atKey at h2 hf
  simp only at h2 hf
  cases hq : (List.filter (fun p => !pd p.1 p.2 || left p.1) es).find? (fun p => p.1.sameKey kl) with
  | none => rw [hq] at hf; exact absurd rfl hf
  | some q =>
    rw [hq] at h2
    have hqm := (List.mem_filter.1 (List.mem_of_find?_eq_some hq)).1
    rw [← e] at hqm
    obtain ⟨z, _, rfl⟩ := List.mem_map.1 (mem_sorted.1 hqm)
    exact h2.symm
def zeroA : List Value := acells ⟨#[]⟩ (List.replicate 16 0) 0 0
theorem zeroA_length : zeroA.length = 19 := acells_length _ _ _ _ (by simp)
theorem zeroA_run (w : World) : (zeroValue 35).run Try.prog w = .ok (.agg zeroA.toArray) w := by kernel_rfl
theorem aggA : AggT Try.prog 35 19 := ⟨fun _ => by kernel_rfl, by kernel_rfl⟩
theorem zeroU_run (w : World) : (zeroValue 52).run Try.prog w = .ok (.agg (#[] : Array Value)) w := by kernel_rfl
theorem aggU : AggT Try.prog 52 0 := ⟨fun _ => by kernel_rfl, by kernel_rfl⟩

set_option maxRecDepth 100000 in
set_option maxHeartbeats 2000000 in
theorem delFunc_any (b nb : Nat) (M : List Au) (now : Int) (w : World) (hM : MT Try.prog 35 auV uV w b (setM M)) (hok : ∀ a ∈ M, auOk a) (hn : I64 now) (hnb : w.cell? ⟨nb, 0, none⟩ = some (.int .i64 now)) (hne : nb ≠ b) :
    Calls Try.prog 20 #[.map (some b), .func (.func 21) #[] #[.pointer (some ⟨nb, 0, none⟩)]] w
      fun e w' => e = .returned (.tuple #[]) ∧ MT Try.prog 35 auV uV w' b (setM (keepA now M)) ∧ w.grownBy w' (some b) := by
  have hown := hM.2
  obtain ⟨es0, hes, hap, hkeys⟩ := hown.entries keyedA
  have HES := Lib.hid hes
  have HNB := Lib.hid hnb
  have HNE := Lib.hid hne
  have HOK := Lib.hid hok
  have HI := Lib.hid hn
  have HF := Lib.hid hM.1
  have HBL := Lib.hid (World.block_lt_of_cell? w _ hnb)
  rw [hes] at hown
  clear hM hnb hne hok hn hes
  go_enter Try.func20, Try.ntmps20
  go_wp2_with (first
    | (at_range; refine wpList_range_own _ rfl _ 47 rfl 35 52 keyedA Try.underlying47 RV b _ _ rfl hown ?_; intro w0 hrg0 hg0 hs0)
    | go_in)
  go_loopw [8] (fun _ wr => ∃ (left : Lit → Bool) (cnt : Nat), wr.ranges Try.prog 35 RV b w.heap.size (setM M).length (Fk (pdA Try.prog 35 M now) es0 left) left cnt ∧ w.grownBy wr (some b))
    (fun _ wr => wr.rangeLeft b w.heap.size)
  case atStart => exact ⟨_, _, by rw [Fk_start hkeys]; exact hrg0, hg0.but _⟩
  case round =>
    obtain ⟨left, cnt, hrg, hgw⟩ := hrel
    go_wp2_with (first
      | (at_next; refine wpList_next_ranges _ rfl _ rfl 35 keyedA RV id id (fun key _ _ => ⟨key, rfl⟩) (fun v _ _ => ⟨v, rfl⟩) b w.heap.size _ _ _ _ rfl hrg ?_ ?_)
      | go_in)
    · intro _ hl0
      go_wp2
      go_end0
      refine ⟨rfl, MT.mk (HF.out.sub (by rw [← keep_setM]; exact List.filter_sublist)) hrg.owns ?_, hgw⟩
      rw [Fk_end hl0, ← HES.out, ← keep_setM]
      exact strike_datM keyedA auV_inj HF.out _ (fun p => far now p.1.2.1) (fun p hp => pdA_at HOK.out (mem_setM.1 hp) _)
    · intro x c kl yd yp w1 cnt1 hkey hlx hv hat hrg1 hlt hg1 hs1 hen
      obtain ⟨a, ha, hka, hyd⟩ := came_of HES.out hat
      obtain rfl : x = auV a := keyedA.inj hkey (by rw [← hka]; exact key_au a (HOK.out a ha))
      obtain rfl : c = .agg #[] := by
        have h1 : yd = DataW.held c := by unfold RV at hv; simpa using (congrArg (fun o => o.map Prod.fst) hv).symm
        have h2 : DataW.held c = DataW.held (.agg #[]) := h1.symm.trans hyd
        injection h2
      have hpd : pdA Try.prog 35 M now kl yd = far now a.2.1 := by rw [← hka]; exact pdA_at HOK.out ha _
      have hgw1 := hgw.andThen hg1 (fun j hj => by cases hj; exact Or.inl (Nat.le_refl _))
      have hcn : w1.cell? ⟨nb, 0, none⟩ = some (.int .i64 now) := (World.cell?_of_block (hgw1.block nb HBL.out (fun e => HNE.out (by injection e)))).trans HNB.out
      have HOA := Lib.hid (HOK.out a ha)
      have HRG := Lib.hid hrg1
      have HKEY := Lib.hid (show keyOf Try.prog 35 (.agg (auC a).toArray) = some kl from hkey)
      have HAT := Lib.hid hat
      have HLX := Lib.hid hlx
      have HLT := Lib.hid hlt
      have HEQ := Lib.hid hrg.left_eq
      have HGW := Lib.hid hgw1
      have HPD := Lib.hid hpd
      have HCN := Lib.hid hcn
      have HNL := Lib.hid (World.block_lt_of_cell? w1 _ hcn)
      have hrl := hrg1.lt
      have hbl := hrg1.owns.lt
      have hen' : (Instr.entry (.pointer (some ⟨w.heap.size, 0, none⟩))).run Try.prog w1 = .ok (.tuple #[.agg (auC a).toArray, .agg #[]]) w1 := hen
      have HB1 := Lib.hid ((CB.new w1 35 zeroA).alloc (.cells #[] 52))
      have HU1 := Lib.hid (CB.new1 w1 (.cells zeroA.toArray 35) 52 [])
      have HG1 := Lib.hid (grown_trans' (grown_alloc w1 (.cells zeroA.toArray 35) none) (grown_alloc _ (.cells #[] 52) none))
      clear hgw hg1 hrg1 hkey hat hlx hlt hgw1 hcn hen hs1 hka hyd hv ha hpd hrg
      show wpList _ _ _ _ _ _
      cases hf : far now a.2.1 with
      | false =>
        have HF1 := Lib.hid hf
        clear hf
        go_wp2_with (first
          | refine wpList_allocC zeroA_run rfl rfl ?_
          | refine wpList_allocC (cs := []) zeroU_run rfl rfl ?_
          | (refine wpList_storeC (off := 0) (p := auC a) aggA.hi rfl (.tmp 4) (.tmp 11) rfl (.agg (auC a).toArray) rfl (auC_one a) HB1.out (auC_length HOA.out) (by rw [zeroA_length]; omega) (by first | rfl | go_simp) (by first | rfl | go_simp) ?_; intro w2 h2 g2; rw [over_all _ _ (Nat.le_of_eq (by rw [zeroA_length, auC_length HOA.out]))] at h2; have B2 := Lib.hid h2; have U2 := Lib.hid (HU1.out.grown g2 (by omega)); have G2 := Lib.hid (none_new HG1.out g2 (Nat.le_refl _)); clear h2 g2)
          | (refine wpList_storeC (off := 0) (p := []) aggU.hi rfl (.tmp 5) (.tmp 12) rfl (.agg #[]) rfl (fun _ h => by cases h) U2.out rfl (Nat.le_refl _) (by first | rfl | go_simp) (by first | rfl | go_simp) ?_; intro w3 h3 g3; rw [over_all _ _ (Nat.le_refl _)] at h3; have G3' := Lib.hid (grown_nothing U2.out h3 g3); have B3 := Lib.hid (B2.out.kept G3'.out); have G3 := Lib.hid (grown_trans' G2.out G3'.out); have U3 := Lib.hid h3; clear h3 g3)
          | (refine wpList_loadC (off := 0) (p := auC a) aggA rfl (.tmp 4) rfl B3.out (take_all (auC_length HOA.out)) (by rw [auC_length HOA.out]; omega) (by first | rfl | go_simp) ?_)
          | (refine wpList_loadC (off := 0) (p := []) aggU rfl (.tmp 5) rfl U3.out rfl (Nat.le_refl _) (by first | rfl | go_simp) ?_)
          | (go_at_call 21; refine (old_any a HOA.out now HI.out _ nb ((World.cell?_of_block (G3.out.block nb HNL.out (by simp))).trans HCN.out)).mono ?_; rintro e w4 ⟨rfl, g4⟩; rw [HF1.out]; have G4 := Lib.hid (grown_trans' G3.out g4); clear g4))
        go_roundw
        case rel => exact ⟨_, cnt1, by rw [← Fk_stays hap (keyedA.key HKEY.out) HLX.out (HPD.out.trans HF1.out) HAT.out]; exact HRG.out.kept G4.out (by simp) (by simp), HGW.out.andThen G4.out (fun j hj => by cases hj)⟩
        case measure => rw [(HRG.out.kept G4.out (by simp) (by simp)).left_eq, HEQ.out]; exact HLT.out
      | true =>
        have HF1 := Lib.hid hf
        clear hf
        go_wp2_with (first
          | refine wpList_allocC zeroA_run rfl rfl ?_
          | refine wpList_allocC (cs := []) zeroU_run rfl rfl ?_
          | (refine wpList_storeC (off := 0) (p := auC a) aggA.hi rfl (.tmp 4) (.tmp 11) rfl (.agg (auC a).toArray) rfl (auC_one a) HB1.out (auC_length HOA.out) (by rw [zeroA_length]; omega) (by first | rfl | go_simp) (by first | rfl | go_simp) ?_; intro w2 h2 g2; rw [over_all _ _ (Nat.le_of_eq (by rw [zeroA_length, auC_length HOA.out]))] at h2; have B2 := Lib.hid h2; have U2 := Lib.hid (HU1.out.grown g2 (by omega)); have G2 := Lib.hid (none_new HG1.out g2 (Nat.le_refl _)); clear h2 g2)
          | (refine wpList_storeC (off := 0) (p := []) aggU.hi rfl (.tmp 5) (.tmp 12) rfl (.agg #[]) rfl (fun _ h => by cases h) U2.out rfl (Nat.le_refl _) (by first | rfl | go_simp) (by first | rfl | go_simp) ?_; intro w3 h3 g3; rw [over_all _ _ (Nat.le_refl _)] at h3; have G3' := Lib.hid (grown_nothing U2.out h3 g3); have B3 := Lib.hid (B2.out.kept G3'.out); have G3 := Lib.hid (grown_trans' G2.out G3'.out); have U3 := Lib.hid h3; clear h3 g3)
          | (refine wpList_loadC (off := 0) (p := auC a) aggA rfl (.tmp 4) rfl B3.out (take_all (auC_length HOA.out)) (by rw [auC_length HOA.out]; omega) (by first | rfl | go_simp) ?_)
          | (refine wpList_loadC (off := 0) (p := []) aggU rfl (.tmp 5) rfl U3.out rfl (Nat.le_refl _) (by first | rfl | go_simp) ?_)
          | (go_at_call 21; refine (old_any a HOA.out now HI.out _ nb ((World.cell?_of_block (G3.out.block nb HNL.out (by simp))).trans HCN.out)).mono ?_; rintro e w4 ⟨rfl, g4⟩; rw [HF1.out]; have G4 := Lib.hid (grown_trans' G3.out g4); have B4 := Lib.hid (B3.out.kept g4); clear g4; have TK := Lib.hid True.intro)
          | (refine wpList_loadC (off := 0) (p := auC a) aggA rfl (.tmp 4) rfl B4.out (take_all (auC_length HOA.out)) (by rw [auC_length HOA.out]; omega) (by first | rfl | go_simp) ?_)
          | (at_delete; refine wpList_delete_ranges _ rfl _ _ 47 35 rfl 52 keyedA Try.underlying47 RV b w.heap.size _ _ _ _ rfl (HRG.out.kept G4.out (by simp) (by simp)) _ _ rfl HKEY.out ?_; intro w5 cnt5 hrg5 hle hturn; go_frame))
        rw [strike_twice] at hrg5
        go_roundw
        case rel => exact ⟨_, cnt5, by rw [← Fk_struck hap (keyedA.key HKEY.out) HLX.out (HPD.out.trans HF1.out) HAT.out]; exact hrg5, (HGW.out.andThen G4.out (fun j hj => by cases hj)).andThen hturn.grown (fun j hj => by cases hj; exact Or.inr rfl)⟩
        case measure => rw [hrg5.left_eq, HEQ.out]; have := HLT.out; omega
end Go.Proofs.Ytgamlioahdbikaa
