/- The walk of MuxPlays. -/
import Derived.Test.YtajfaplaaafjiaaMya
import Derived.Test.YtajfaplaaafjiaaMxu
namespace Go.Proofs.Ytajfaplaaafjiaa
open Go.RowKit

theorem aggO : AggT Try.prog 53 6 := ⟨fun w => by kernel_rfl, by kernel_rfl⟩
theorem yields_load6 {P : Program} {ops : Array Oper} {S : World → Prop} {oi : Oper} {a : Act} {ty t : TypeId} {n g off : Nat} {cs p : List Value} (hT : AggT P ty n) (x : Operand) (ho : oi.op = .load ty x) (hw : Region.wanted oi (yielded ops a.tmps) = true) (h : ∀ wx, S wx → CB wx g t cs) (hp : (cs.drop off).take n = p) (hl : off + n ≤ cs.length) (hx : a.eval x = .pointer (some ⟨g, off, none⟩)) :
    YieldsIf P ops S oi (.agg p.toArray) a := by
  refine .inl ⟨hw, fun wx hS => ?_⟩
  have hr := run_loadC hT (h wx hS) hp hl
  unfold execOp
  simp only [ho, hx, Instr.loadAt, Instr.sureAddr, Sem.run_bind, Sem.run_pure, Result.andThen_ok, hr]
theorem RB.drewx {w x : World} {A : Option Addr} {l : List UInt8} {c : Nat} (h : RB w w.heap.size A l c) (e : w.drew = x) : RB x x.heap.size A l c := by subst e; exact h
theorem OwnB.drewx {w x : World} {b : Nat} {t : TypeId} {v : Value} {l : List UInt8} (h : OwnB w b t v l) (e : w.drew = x) : OwnB x b t v l := by subst e; exact h
theorem OwnB.len_ {w : World} {b : Nat} {t : TypeId} {A : Option Addr} {n c : Nat} {l : List UInt8} (h : OwnB w b t (.slice A n c) l) : n = l.length := by
  obtain ⟨A', c', e, -⟩ := h.shape
  injection e

theorem muR_len (C : Nat → Ch) (i most : Int) : (muR C i most).1.length = rdK C i most := by
  by_cases h : badC i ∨ most ≤ 0
  · unfold muR rdK; rw [if_pos h, if_pos h]; rfl
  · have hk : rdK C i most = min most.toNat (C i.toNat).came.length := by unfold rdK; rw [if_neg h]
    have hm : (muR C i most).1 = (C i.toNat).came.take (rdK C i most) := by unfold muR; rw [if_neg h]
    rw [hm, List.length_take, hk]
    omega
theorem wp_allocD {P : Program} {o : Oper} {a : Act} {w : World} {K : Act → World → Prop} {Q : Exit → Act → World → Prop} {d : Option Tmp} {ty : TypeId} {cs : List Value} (hd : o.dst = d) (hz : ∀ w, (zeroValue ty).run P w = .ok (.agg cs.toArray) w) (ho : o.op = .alloc ty)
    (hk : K (a.put d (.pointer (some ⟨w.heap.size, 0, none⟩))) (w.alloc (.cells cs.toArray ty))) : o.wp P a w K Q := by
  subst hd
  exact wp_allocC hz ho hk
/-- What stands at the head of each round. -/
def PlRel (w : World) (m n n0 : Nat) (s21 : Value) (wr : World) : Prop :=
  ∃ (k : Nat) (us vs : Nat → Value) (C : Nat → Ch) (us' vs' : Nat → Value) (D : Nat → Rc), s21 = .int .i64 k ∧ k ≤ n0 ∧ MX wr w.heap.size m us vs C ∧ RX wr w.heap.size n us' vs' D ∧ (∀ z, mxS m us vs z → ¬ rxS n us' vs' z) ∧ w.grownBy wr none ∧ RlA C D ∧ LimA C ∧ RbA (10000 * k) D
theorem MO.of {w wr : World} {m n : Nat} {us vs us' vs' : Nat → Value} {C : Nat → Ch} {D : Nat → Rc} (h1 : MX wr w.heap.size m us vs C) (h2 : RX wr w.heap.size n us' vs' D) (h3 : ∀ z, mxS m us vs z → ¬ rxS n us' vs' z) (h4 : w.grownBy wr none) (cs : List Value) :
    MO w (wr.alloc (.cells cs.toArray 53)) m us vs C n us' vs' D wr.heap.size cs :=
  ⟨h1.made (grown_alloc _ _ _), h2.made (grown_alloc _ _ _), h3, grown_trans' h4 (grown_alloc _ _ _), CB.new _ _ _, h4.size⟩

set_option maxRecDepth 10000 in
set_option maxHeartbeats 32000000 in
theorem walk_MuxPlays (w : World) (A0 : Option Addr) (os : List Op8) (cap0 : Nat) (h0 : RO w w.heap.size A0 os cap0) (hb : ∀ o ∈ os, o.ok) :
    Calls Try.prog 7 #[.slice A0 os.length cap0] w fun e w' => e = .returned (.bool true) ∧ Below w.heap.size w w' := by
  have H0 := Lib.hid h0
  have HB := Lib.hid hb
  obtain ⟨n0, hn0⟩ : ∃ m, os.length = m := ⟨_, rfl⟩
  have N0 := Lib.hid hn0
  rw [hn0]
  clear h0 hb
  have GR := Lib.hid (fun w1 (g1 : w.grownBy w1 none) => great_any w1 A0 os n0 cap0 hn0 ((H0.out.below (below_rw g1 (Nat.le_refl _))).more g1.size))
  cases hgr : great8 os with
  | true =>
    rw [hgr] at GR
    clear hn0 hgr
    go_enter Try.func7, Try.ntmps7
    go_wp2_with (first
      | (go_at_call 19; refine (speaks18_any _).mono ?_; rintro e w1 ⟨rfl, g1⟩; have G1 := Lib.hid g1; clear g1)
      | (go_at_call 20; refine (GR.out _ G1.out).mono ?_; rintro e w2 ⟨rfl, g2⟩; have G2 := Lib.hid (grown_trans' G1.out g2); clear g2))
    go_ret
    exact ⟨rfl, below_of_none G2.out⟩
  | false =>
  rw [hgr] at GR
  have HL := Lib.hid (great8_no hgr)
  have hn80 : n0 ≤ 80 := by rw [← hn0]; exact HL.out.1
  clear hn0 hgr
  go_enter Try.func7, Try.ntmps7
  go_wp2_with (first
    | (go_at_call 19; refine (speaks18_any _).mono ?_; rintro e w1 ⟨rfl, g1⟩; have G1 := Lib.hid g1; clear g1)
    | (go_at_call 20; refine (GR.out _ G1.out).mono ?_; rintro e w2 ⟨rfl, g2⟩; have G2 := Lib.hid (grown_trans' G1.out g2); clear g2)
    | (go_at_call 21; refine (mnew_any _).mono ?_; rintro e w3 ⟨rfl, x3, g3⟩; have X3 := Lib.hid (x3.base_ G2.out.size); have G3 := Lib.hid (grown_trans' G2.out g3); clear x3 g3)
    | (go_at_call 22; refine (rnew_any _).mono ?_; rintro e w4 ⟨n, rfl, hn, x4, g4⟩
       have S0 := Lib.hid (show PlRel w w2.heap.size n n0 (.int .i64 0) w4 from ⟨0, _, _, _, _, _, _, rfl, Nat.zero_le _, X3.out.made g4, x4.base_ G3.out.size, fun z h1 h2 => by
         have := (X3.out.lt z h1).2
         rcases h2 with rfl | ⟨i, hi, h2 | h2⟩
         · omega
         · simp [nilV, Value.ownBlock] at h2
         · simp [nilV, Value.ownBlock] at h2, grown_trans' G3.out g4, fun i hi => by unfold newR; rw [if_pos hi]; exact ⟨rfl, Nat.le_refl _, rfl, rfl, rfl, rfl, Nat.le_refl _, rfl, rfl⟩, LimA.new, fun i hi => by unfold newR; rw [if_pos hi]; exact ⟨Nat.le_refl _, Nat.le_refl _⟩⟩)
       clear hn x4 g4))
  generalize w2.heap.size = m at *
  go_loopw [21] (fun s21 wr => PlRel w m n n0 s21 wr) (fun s21 _ => n0 - (intOf s21).toNat)
  case atStart => exact S0.out
  case round =>
    obtain ⟨k, us, vs, C, us', vs', D, rfl, hk, hM, hR, hap, hG, hrl, hLim, hBd⟩ := hrel
    obtain ⟨wo, hwo⟩ : ∃ wo, wo = wr := ⟨_, rfl⟩
    subst hwo
    by_cases hlt : k < n0
    · obtain ⟨b, off, rfl, hbb, hc⟩ := H0.out.open_ (by rw [N0.out]; omega)
      obtain ⟨o, ho⟩ : ∃ o, os[k]? = some o := ⟨_, List.getElem?_eq_getElem (by rw [N0.out]; exact hlt)⟩
      obtain ⟨V, cV, r0, r1, r2, r3, r4, r5, hr⟩ := hc k o ho
      have be := below_rw hG (Nat.le_refl _)
      have q0 := (be.cell (p := ⟨b, off + k * 6, none⟩) hbb).trans r0
      have q1 := (be.cell (p := ⟨b, off + k * 6 + 1, none⟩) hbb).trans r1
      have q2 := (be.cell (p := ⟨b, off + k * 6 + 2, none⟩) hbb).trans r2
      have q3 := (be.cell (p := ⟨b, off + k * 6 + 3, none⟩) hbb).trans r3
      have q4 := (be.cell (p := ⟨b, off + k * 6 + 4, none⟩) hbb).trans r4
      have q5 := (be.cell (p := ⟨b, off + k * 6 + 5, none⟩) hbb).trans r5
      have hki : (k : Int) < (n0 : Int) := by omega
      have hfl : o.fb.length ≤ 2000 := HL.out.2 o (List.mem_of_getElem? ho)
      have hokk := HB.out o (List.mem_of_getElem? ho)
      have hk80 : k ≤ 80 := by omega
      have HVR := Lib.hid hr
      clear hc r0 r1 r2 r3 r4 r5 hr ho hbb be
      obtain ⟨ok, osd, oc, oz, ofc, ofb⟩ := o
      have HOC := Lib.hid (show I64 oc ∧ I64 oz ∧ I64 ofc from ⟨hokk.2.2.1, hokk.2.2.2.1, hokk.2.2.2.2⟩)
      simp only at q0 q1 q2 q3 q4 q5 hfl HVR
      obtain ⟨ln, hln⟩ : ∃ x, ofb.length = x := ⟨_, rfl⟩
      have HLN := Lib.hid hln
      rw [hln] at q5 hfl
      obtain ⟨k7, hk7, hkk⟩ := and_low ok 3 (by omega)
      have hkk : bits .and .i64 ok 7 = (k7 : Int) := hkk
      have SZ := Lib.hid (sizeN_eq oz)
      generalize sizeN oz = sz at *
      have MO0 := Lib.hid (MO.of hM hR hap hG [.int .i64 ok, .int .i64 osd, .int .i64 oc, .int .i64 oz, .int .i64 ofc, .slice V ln cV])
      have LC := Lib.hid hLim
      have RL0 := Lib.hid hrl
      have BD0 := Lib.hid hBd
      clear hM hR hap hG hrl hLim hBd hokk hln
      by_cases e0 : k7 = 0
      · subst e0
        go_wp2_with (first
          | (go_at_call 24; refine (size_any _ ok osd oc oz ofc V ln cV).mono ?_; rintro e w4 ⟨rfl, g4⟩; rw [SZ.out.1]; have M4 := Lib.hid (MO0.out.made g4); clear g4)
          | (go_at_call 23; refine (text_any _ sz k (by have := SZ.out.2; omega) (by omega)).mono ?_; rintro e x5 ⟨A5, c5, rfl, o5, g5⟩; have O5 := Lib.hid o5; have M5 := Lib.hid (M4.out.made g5); have LH := Lib.hid (show w4.heap.size ≤ x5.heap.size ∧ wo.heap.size < w4.heap.size from ⟨g5.size, M4.out.cb.lt⟩); have OM := Lib.hid (show Ou w4.heap.size x5.heap.size m us vs from M4.out.mx.old _); have OR := Lib.hid (fun z (hz : rxS n us' vs' z) => (M4.out.rx.lt z hz).2); clear o5 g5))
        obtain ⟨xd, hxd⟩ : ∃ x, x5.drew = x := ⟨_, rfl⟩
        have GD := Lib.hid (show x5.grownBy xd none by rw [← hxd]; exact grown_drew (World.grownBy.refl _ none))
        have MD := Lib.hid (M5.out.made GD.out)
        have hsd := MD.out.cb
        refine helds_begin (fun x => CB x wo.heap.size 53 [.int .i64 ok, .int .i64 osd, .int .i64 oc, .int .i64 oz, .int .i64 ofc, .slice V ln cV]) (by kernel_rfl) (by rw [hxd]; exact MD.out.cb) (fun hb0 => ?_)
        try rw [hxd] at hb0
        try rw [hxd]
        refine helds_take (i := 0) (d := some 64) (v := ?vwa_1) (by assumption) rfl rfl (by kernel_rfl) (fun _ _ _ h => h) ?ywa_1 ?_; case ywa_1 => (refine Or.inl ⟨rfl, fun wx hS => ?_⟩; go_simp; try with_reducible rfl)
        try simp only [Act.put, List.setIfInBounds_toArray, List.set_cons_zero, List.set_cons_succ]
        refine helds_take (i := 1) (d := some 65) (v := ?vwa_2) (by assumption) rfl rfl (by kernel_rfl) (fun _ _ _ h => h) ?ywa_2 ?_; case ywa_2 => (refine Or.inl ⟨rfl, fun wx hS => ?_⟩; go_simp; try with_reducible rfl)
        try simp only [Act.put, List.setIfInBounds_toArray, List.set_cons_zero, List.set_cons_succ]
        refine helds_take (i := 2) (d := some 66) (v := _) (by assumption) rfl rfl (by kernel_rfl) (fun _ _ _ h => h) (yields_cell1 (fun w => by kernel_rfl) (.tmp 65) rfl rfl (fun wx hx => CB.at_ hx (i := 2) rfl) rfl) ?_
        try simp only [Act.put, List.setIfInBounds_toArray, List.set_cons_zero, List.set_cons_succ]
        refine helds_take (i := 3) (d := some 67) (v := ?vwa_4) (by assumption) rfl rfl (by kernel_rfl) (fun _ _ _ h => h) ?ywa_4 ?_; case ywa_4 => (refine Or.inl ⟨rfl, fun wx hS => ?_⟩; go_simp; try with_reducible rfl)
        try simp only [Act.put, List.setIfInBounds_toArray, List.set_cons_zero, List.set_cons_succ]
        refine helds_take (i := 5) (d := some 69) (v := ?vwa_5) (by assumption) rfl rfl (by kernel_rfl) (fun _ _ _ h => h) ?ywa_5 ?_; case ywa_5 => (refine Or.inl ⟨rfl, fun wx hS => ?_⟩; go_simp; try with_reducible rfl)
        try simp only [Act.put, List.setIfInBounds_toArray, List.set_cons_zero, List.set_cons_succ]
        refine helds_take (i := 6) (d := some 70) (v := ?vwa_6) (by assumption) rfl rfl (by kernel_rfl) (fun _ _ _ h => h) ?ywa_6 ?_; case ywa_6 => (refine Or.inl ⟨rfl, fun wx hS => ?_⟩; go_simp; try with_reducible rfl)
        try simp only [Act.put, List.setIfInBounds_toArray, List.set_cons_zero, List.set_cons_succ]
        refine helds_take (i := 7) (d := some 71) (v := _) (by assumption) rfl rfl (by kernel_rfl) (fun _ _ _ h => h) (yields_cell1 (fun w => by kernel_rfl) (.tmp 70) rfl rfl (fun wx hx => CB.at_ hx (i := 2) rfl) rfl) ?_
        try simp only [Act.put, List.setIfInBounds_toArray, List.set_cons_zero, List.set_cons_succ]
        refine helds_take (i := 8) (d := some 72) (v := _) (by assumption) rfl rfl (by kernel_rfl) (fun _ _ _ h => h) (yields_load6 (p := [.int .i64 ok, .int .i64 osd, .int .i64 oc, .int .i64 oz, .int .i64 ofc, .slice V ln cV]) aggO (.tmp 6) rfl rfl (fun _ hx => hx) rfl (by simp) rfl) ?_
        try simp only [Act.put, List.setIfInBounds_toArray, List.set_cons_zero, List.set_cons_succ]
        refine helds_take (i := 10) (d := some 74) (v := ?vwa_9) (by assumption) rfl rfl (by kernel_rfl) (fun _ _ _ h => h) ?ywa_9 ?_; case ywa_9 => (refine Or.inl ⟨rfl, fun wx hS => ?_⟩; go_simp; try with_reducible rfl)
        try simp only [Act.put, List.setIfInBounds_toArray, List.set_cons_zero, List.set_cons_succ]
        refine helds_one (i := 4) rfl (by kernel_rfl) rfl (fun K hK => ?_)
        refine wp_callD (d := some 68) (f := 25) (args := #[.pointer (some ⟨m, 0, none⟩), .int .i64 oc, .slice A5 sz c5]) rfl (by first | rfl | go_simp) ?_
        refine (muA MD.out.mx LC.out oc HOC.out.1 A5 (textB sz k) sz c5 (textB_len _ _) ((OwnB.rb_ O5.out).drewx hxd) (by have := SZ.out.2; omega)).mono ?_
        rintro e x6 ⟨rfl, us6, vs6, k6, g6⟩
        refine ⟨_, rfl, ?_⟩
        have O6 := Lib.hid ((O5.out.drewx hxd).mod g6.1 (fun g hg hs => by have h1 := O5.out.lt g hg; have h2 := OM.out g hs; omega))
        have OM6 := Lib.hid (OM.out.step g6 (by rw [← hxd]; exact Nat.le_refl _))
        have M6 := Lib.hid (MD.out.stepM k6 g6)
        have HZ6 := Lib.hid (show x5.heap.size ≤ x6.heap.size by have := g6.1.size; rw [← hxd] at this; exact this)
        have hs6 := M6.out.cb
        clear k6 g6
        refine hK.out _ _ (by assumption) (fun _ => ?_)
        clear hK K
        try simp only [Act.put, List.setIfInBounds_toArray, List.set_cons_zero, List.set_cons_succ]
        refine helds_one (i := 9) rfl (by kernel_rfl) rfl (fun K hK => ?_)
        refine wp_callD (d := some 73) (f := 24) (args := #[.agg #[.int .i64 ok, .int .i64 osd, .int .i64 oc, .int .i64 oz, .int .i64 ofc, .slice V ln cV]]) rfl (by first | rfl | go_simp) ?_
        refine (size_any _ ok osd oc oz ofc V ln cV).mono ?_
        rw [SZ.out.1]
        rintro e x7 ⟨rfl, g7⟩
        refine ⟨_, rfl, ?_⟩
        have O7 := Lib.hid (OwnB.none_ O6.out g7)
        have M7 := Lib.hid (M6.out.made g7)
        have HZ7 := Lib.hid (Nat.le_trans HZ6.out g7.size)
        have hs7 := M7.out.cb
        clear g7
        refine hK.out _ _ (by assumption) (fun _ => ?_)
        clear hK K
        try simp only [Act.put, List.setIfInBounds_toArray, List.set_cons_zero, List.set_cons_succ]
        refine helds_one (i := 11) rfl (by kernel_rfl) rfl (fun K hK => ?_)
        refine wp_callD (d := some 75) (f := 23) (args := #[.int .i64 (sz : Int), .int .i64 (k : Int)]) rfl (by first | rfl | go_simp) ?_
        refine (text_any _ sz k (by have := SZ.out.2; omega) (by omega)).mono ?_
        rintro e x8 ⟨A8, c8, rfl, o8, g8⟩
        refine ⟨_, rfl, ?_⟩
        have O8 := Lib.hid (OwnB.none_ O7.out g8)
        have R8 := Lib.hid (OwnB.rb_ o8)
        have M8 := Lib.hid (M7.out.made g8)
        have hs8 := M8.out.cb
        have GE8 := Lib.hid g8.size
        clear g8 o8
        refine hK.out _ _ (by assumption) (fun _ => ?_)
        clear hK K
        try simp only [Act.put, List.setIfInBounds_toArray, List.set_cons_zero, List.set_cons_succ]
        refine helds_one (i := 12) rfl (by kernel_rfl) rfl (fun K hK => ?_)
        refine wp_callD (d := some 76) (f := 26) (args := #[.pointer (some ⟨n, 0, none⟩), .int .i64 oc, .slice A8 sz c8]) rfl (by first | rfl | go_simp) ?_
        refine (rwrite_any _ _ _ _ _ _ C (10000 * k) M8.out.rx RL0.out LC.out BD0.out (by omega) oc HOC.out.1 A8 (textB sz k) sz c8 (textB_len _ _) R8.out (by have := SZ.out.2; omega)).mono ?_
        rintro e x9 ⟨rfl, us9, vs9, D9, k9, rl9, bd9, g9⟩
        refine ⟨_, rfl, ?_⟩
        have O9 := Lib.hid (O8.out.mod g9.1 (fun g hg e => by have h1 := O8.out.lt g hg; have h2 := OR.out n (.inl rfl); omega))
        have M9 := Lib.hid (M8.out.stepR k9 g9)
        have RLF := Lib.hid rl9
        have LMF := Lib.hid (LC.out.muW oc (textB sz k))
        have BDF := Lib.hid (show RbA (10000 * (k + 1)) D9 from fun i hi => ⟨by have := (bd9 i hi).1; have := SZ.out.2; omega, by have := (bd9 i hi).2; have := SZ.out.2; omega⟩)
        have RO9 := Lib.hid (show ∀ z, w4.heap.size ≤ z → z < x5.heap.size → ¬ rxS n us9 vs9 z from fun z h1 h2 hz => by
          rcases g9.2 z hz with e | e
          · have := OR.out z e; omega
          · have := HZ7.out; have := M8.out.gr.size; have := GE8.out; omega)
        have hs9 := M9.out.cb
        clear k9 rl9 bd9 g9
        refine hK.out _ _ (by assumption) (fun _ => ?_)
        clear hK K
        try simp only [Act.put, List.setIfInBounds_toArray, List.set_cons_zero, List.set_cons_succ]
        refine helds_take (i := 13) (d := some 77) (v := ?vwa_10) (by assumption) rfl rfl (by kernel_rfl) (fun _ _ _ h => h) ?ywa_10 ?_; case ywa_10 => (refine Or.inl ⟨rfl, fun wx hS => ?_⟩; go_simp; try with_reducible rfl)
        try simp only [Act.put, List.setIfInBounds_toArray, List.set_cons_zero, List.set_cons_succ]
        refine held_end (by kernel_rfl) ?_ _
        clear hsd hs6 hs7 hs8 hs9 hxd
        generalize (muW C oc (textB sz k)).2 = CF at *
        generalize (muW C oc (textB sz k)).1 = en at *
        have IC := Lib.hid (own_CB' O9.out)
        have NIL := Lib.hid (show A5 = none → sz = 0 from fun e => by have h := OwnB.rb_ O9.out; rw [e] at h; have h2 := h.none_len'; have h3 := (OwnB.len_ O9.out); omega)
        have SZL := Lib.hid (show sz ≤ 9223372036854775807 by have := SZ.out.2; omega)
        have hszl := SZL.out
        go_wp2
        go_loopw [80] (fun s wq => ∃ j : Nat, s = .int .i64 j ∧ j ≤ sz ∧ Mod (fun z => (Value.slice A5 sz c5).ownBlock = some z) x9 wq ∧ ∀ g, (Value.slice A5 sz c5).ownBlock = some g → A5 = some ⟨g, 0, none⟩ ∧ sz ≤ c5 ∧ ∃ cs, CB wq g 5 cs ∧ cs.length = c5) (fun s _ => sz - (intOf s).toNat)
        case atStart => exact ⟨0, rfl, Nat.zero_le _, Mod.refl _ _, IC.out⟩
        case round =>
          obtain ⟨j, rfl, hj, hMj, hCj⟩ := hrel
          by_cases hjl : j < sz
          · obtain ⟨g2, hg2⟩ : ∃ g, (Value.slice A5 sz c5).ownBlock = some g := by
              cases A5 with
              | none => have := NIL.out rfl; omega
              | some a => exact ⟨a.block, rfl⟩
            obtain ⟨rfl, hlc, cs, hcs, hcl⟩ := hCj g2 hg2
            have MJ := Lib.hid hMj
            have CS := Lib.hid hcs
            have CL := Lib.hid hcl
            have hji : (j : Int) < (sz : Int) := by omega
            have hkeep := Lib.hid (show j < cs.length by rw [hcl]; omega)
            skip
            clear hMj hCj hcs hcl hg2
            go_wp2_with (refine wpList_setC (off := j) sz8' rfl (.tmp 85) (.const (.int .u8 238)) rfl .u8 238 CS.out hkeep.out (by first | rfl | go_simp) rfl ?_
                         intro wy hy gy
                         have CY := Lib.hid hy
                         have GY := Lib.hid gy
                         clear hy gy)
            go_wp2
            go_roundw
            case rel => exact ⟨j + 1, by go_num, by omega, MJ.out.grown GY.out (fun z hz _ => by injection hz with hz; subst hz; rfl), fun g hg => by injection hg with hg; subst hg; exact ⟨rfl, hlc, _, CY.out, by rw [List.length_set]; exact CL.out⟩⟩
            case measure => simp [intOf]; omega
          · obtain rfl : sz = j := by omega
            have MR := Lib.hid hMj
            clear hMj hCj hjl
            clear IC NIL SZL hszl
            have MF := Lib.hid (M9.out.row MR.out (fun z hz => by
              have h1 := O9.out.lt z hz
              have h2 := (OwnB.lt O8.out z hz)
              have h3 := (O5.out.lt z hz)
              have h4 := LH.out
              exact ⟨by have := M4.out.gr.size; omega, fun e => by have := OM6.out z e; omega, RO9.out z h1.1 h3.2, by omega⟩))
            go_wp2_with fail
            obtain ⟨xd, hxd⟩ : ∃ x, wr.drew = x := ⟨_, rfl⟩
            have GD := Lib.hid (show wr.grownBy xd none by rw [← hxd]; exact grown_drew (World.grownBy.refl _ none))
            have MD := Lib.hid (MF.out.made GD.out)
            have hsd := MD.out.cb
            refine helds_begin (fun x => CB x wo.heap.size 53 [.int .i64 ok, .int .i64 osd, .int .i64 oc, .int .i64 oz, .int .i64 ofc, .slice V ln cV]) (by kernel_rfl) (by rw [hxd]; exact MD.out.cb) (fun hb0 => ?_)
            try rw [hxd] at hb0
            try rw [hxd]
            refine helds_take (i := 0) (d := some 124) (v := ?vwat_1) (by assumption) rfl rfl (by kernel_rfl) (fun _ _ _ h => h) ?ywat_1 ?_; case ywat_1 => (refine Or.inl ⟨rfl, fun wx hS => ?_⟩; go_simp; try with_reducible rfl)
            try simp only [Act.put, List.setIfInBounds_toArray, List.set_cons_zero, List.set_cons_succ]
            refine helds_take (i := 2) (d := some 126) (v := ?vwat_2) (by assumption) rfl rfl (by kernel_rfl) (fun _ _ _ h => h) ?ywat_2 ?_; case ywat_2 => (refine Or.inl ⟨rfl, fun wx hS => ?_⟩; go_simp; try with_reducible rfl)
            try simp only [Act.put, List.setIfInBounds_toArray, List.set_cons_zero, List.set_cons_succ]
            refine helds_one (i := 1) rfl (by kernel_rfl) rfl (fun K hK => ?_)
            refine wp_callD (d := some 125) (f := 35) (args := #[.pointer (some ⟨m, 0, none⟩)]) rfl (by first | rfl | go_simp) ?_
            refine (muidle_any _ _ _ _ _ _ MD.out.mx).mono ?_
            rintro e wa ⟨rfl, da⟩
            refine ⟨_, rfl, ?_⟩
            have MA := Lib.hid (MD.out.made (da.made none))
            have hsa := MA.out.cb
            refine hK.out _ _ (by assumption) (fun _ => ?_)
            clear hK K
            try simp only [Act.put, List.setIfInBounds_toArray, List.set_cons_zero, List.set_cons_succ]
            refine helds_one (i := 3) rfl (by kernel_rfl) rfl (fun K hK => ?_)
            refine wp_callD (d := some 127) (f := 36) (args := #[.pointer (some ⟨n, 0, none⟩)]) rfl (by first | rfl | go_simp) ?_
            refine (ridle_any _ _ _ _ _ _ _ _ MA.out.rx RLF.out LMF.out BDF.out (by omega)).mono ?_
            rintro e wb ⟨rfl, gb⟩
            refine ⟨_, rfl, ?_⟩
            have MB := Lib.hid (MA.out.made gb)
            have hsb := MB.out.cb
            refine hK.out _ _ (by assumption) (fun _ => ?_)
            clear hK K
            try simp only [Act.put, List.setIfInBounds_toArray, List.set_cons_zero, List.set_cons_succ]
            refine helds_take (i := 4) (d := some 128) (v := ?vwat_3) (by assumption) rfl rfl (by kernel_rfl) (fun _ _ _ h => h) ?ywat_3 ?_; case ywat_3 => (refine Or.inl ⟨rfl, fun wx hS => ?_⟩; go_simp; try with_reducible rfl)
            try simp only [Act.put, List.setIfInBounds_toArray, List.set_cons_zero, List.set_cons_succ]
            refine helds_take (i := 5) (d := some 129) (v := ?vwat_4) (by assumption) rfl rfl (by kernel_rfl) (fun _ _ _ h => h) ?ywat_4 ?_; case ywat_4 => (refine Or.inl ⟨rfl, fun wx hS => ?_⟩; go_simp; try with_reducible rfl)
            try simp only [Act.put, List.setIfInBounds_toArray, List.set_cons_zero, List.set_cons_succ]
            refine helds_take (i := 6) (d := some 130) (v := ?vwat_5) (by assumption) rfl rfl (by kernel_rfl) (fun _ _ _ h => h) ?ywat_5 ?_; case ywat_5 => (refine Or.inl ⟨rfl, fun wx hS => ?_⟩; go_simp; try with_reducible rfl)
            try simp only [Act.put, List.setIfInBounds_toArray, List.set_cons_zero, List.set_cons_succ]
            refine helds_take (i := 7) (d := some 131) (v := ?vwat_6) (by assumption) rfl rfl (by kernel_rfl) (fun _ _ _ h => h) ?ywat_6 ?_; case ywat_6 => (refine Or.inl ⟨rfl, fun wx hS => ?_⟩; go_simp; try with_reducible rfl)
            try simp only [Act.put, List.setIfInBounds_toArray, List.set_cons_zero, List.set_cons_succ]
            refine helds_take (i := 8) (d := some 132) (v := _) (by assumption) rfl rfl (by kernel_rfl) (fun _ _ _ h => h) (yields_cell1 (fun w => by kernel_rfl) (.tmp 131) rfl rfl (fun wx hx => CB.at_ hx (i := 2) rfl) rfl) ?_
            try simp only [Act.put, List.setIfInBounds_toArray, List.set_cons_zero, List.set_cons_succ]
            refine helds_take (i := 10) (d := some 134) (v := ?vwat_8) (by assumption) rfl rfl (by kernel_rfl) (fun _ _ _ h => h) ?ywat_8 ?_; case ywat_8 => (refine Or.inl ⟨rfl, fun wx hS => ?_⟩; go_simp; try with_reducible rfl)
            try simp only [Act.put, List.setIfInBounds_toArray, List.set_cons_zero, List.set_cons_succ]
            refine helds_take (i := 11) (d := some 135) (v := ?vwat_9) (by assumption) rfl rfl (by kernel_rfl) (fun _ _ _ h => h) ?ywat_9 ?_; case ywat_9 => (refine Or.inl ⟨rfl, fun wx hS => ?_⟩; go_simp; try with_reducible rfl)
            try simp only [Act.put, List.setIfInBounds_toArray, List.set_cons_zero, List.set_cons_succ]
            refine helds_take (i := 12) (d := some 136) (v := _) (by assumption) rfl rfl (by kernel_rfl) (fun _ _ _ h => h) (yields_cell1 (fun w => by kernel_rfl) (.tmp 135) rfl rfl (fun wx hx => CB.at_ hx (i := 2) rfl) rfl) ?_
            try simp only [Act.put, List.setIfInBounds_toArray, List.set_cons_zero, List.set_cons_succ]
            refine helds_one (i := 9) rfl (by kernel_rfl) rfl (fun K hK => ?_)
            refine wp_callD (d := some 133) (f := 37) (args := #[.pointer (some ⟨m, 0, none⟩), .int .i64 oc]) rfl (by first | rfl | go_simp) ?_
            refine (muended_any _ _ _ _ _ _ MB.out.mx oc HOC.out.1).mono ?_
            rintro e wc ⟨rfl, dc⟩
            refine ⟨_, rfl, ?_⟩
            have MC := Lib.hid (MB.out.made (dc.made none))
            have hsc := MC.out.cb
            refine hK.out _ _ (by assumption) (fun _ => ?_)
            clear hK K
            try simp only [Act.put, List.setIfInBounds_toArray, List.set_cons_zero, List.set_cons_succ]
            refine helds_one (i := 13) rfl (by kernel_rfl) rfl (fun K hK => ?_)
            refine wp_callD (d := some 137) (f := 38) (args := #[.pointer (some ⟨n, 0, none⟩), .int .i64 oc]) rfl (by first | rfl | go_simp) ?_
            refine (rended_any _ _ _ _ _ _ _ MC.out.rx RLF.out oc HOC.out.1).mono ?_
            rintro e we ⟨rfl, de⟩
            refine ⟨_, rfl, ?_⟩
            have ME := Lib.hid (MC.out.made (de.made none))
            have hse := ME.out.cb
            refine hK.out _ _ (by assumption) (fun _ => ?_)
            clear hK K
            try simp only [Act.put, List.setIfInBounds_toArray, List.set_cons_zero, List.set_cons_succ]
            refine helds_take (i := 14) (d := some 138) (v := ?vwat_11) (by assumption) rfl rfl (by kernel_rfl) (fun _ _ _ h => h) ?ywat_11 ?_; case ywat_11 => (refine Or.inl ⟨rfl, fun wx hS => ?_⟩; go_simp; try with_reducible rfl)
            try simp only [Act.put, List.setIfInBounds_toArray, List.set_cons_zero, List.set_cons_succ]
            refine helds_take (i := 15) (d := some 139) (v := ?vwat_12) (by assumption) rfl rfl (by kernel_rfl) (fun _ _ _ h => h) ?ywat_12 ?_; case ywat_12 => (refine Or.inl ⟨rfl, fun wx hS => ?_⟩; go_simp; try with_reducible rfl)
            try simp only [Act.put, List.setIfInBounds_toArray, List.set_cons_zero, List.set_cons_succ]
            refine held_end (by kernel_rfl) ?_ _
            clear hsd hsa hsb hsc hse
            go_wp2
            go_roundw
            case rel => exact ⟨k + 1, _, _, _, _, _, _, by go_num, by omega, ME.out.mx, ME.out.rx, ME.out.ap, ME.out.gr, RLF.out, LMF.out, BDF.out⟩
            case measure => simp [intOf]; omega
      by_cases e1 : k7 = 1
      · subst e1
        go_wp2_with (first
          | (go_at_call 24; refine (size_any _ ok osd oc oz ofc V ln cV).mono ?_; rintro e w4 ⟨rfl, g4⟩; rw [SZ.out.1]; have M4 := Lib.hid (MO0.out.made g4); clear g4)
          | (go_at_call 23; refine (text_any _ sz k (by have := SZ.out.2; omega) (by omega)).mono ?_; rintro e x5 ⟨A5, c5, rfl, o5, g5⟩; have O5 := Lib.hid o5; have M5 := Lib.hid (M4.out.made g5); have LH := Lib.hid (show w4.heap.size ≤ x5.heap.size ∧ wo.heap.size < w4.heap.size from ⟨g5.size, M4.out.cb.lt⟩); have OM := Lib.hid (show Ou w4.heap.size x5.heap.size m us vs from M4.out.mx.old _); have OR := Lib.hid (fun z (hz : rxS n us' vs' z) => (M4.out.rx.lt z hz).2); clear o5 g5))
        obtain ⟨xd, hxd⟩ : ∃ x, x5.drew = x := ⟨_, rfl⟩
        have GD := Lib.hid (show x5.grownBy xd none by rw [← hxd]; exact grown_drew (World.grownBy.refl _ none))
        have MD := Lib.hid (M5.out.made GD.out)
        have hsd := MD.out.cb
        refine helds_begin (fun x => CB x wo.heap.size 53 [.int .i64 ok, .int .i64 osd, .int .i64 oc, .int .i64 oz, .int .i64 ofc, .slice V ln cV]) (by kernel_rfl) (by rw [hxd]; exact MD.out.cb) (fun hb0 => ?_)
        try rw [hxd] at hb0
        try rw [hxd]
        refine helds_take (i := 0) (d := some 64) (v := ?vwb_1) (by assumption) rfl rfl (by kernel_rfl) (fun _ _ _ h => h) ?ywb_1 ?_; case ywb_1 => (refine Or.inl ⟨rfl, fun wx hS => ?_⟩; go_simp; try with_reducible rfl)
        try simp only [Act.put, List.setIfInBounds_toArray, List.set_cons_zero, List.set_cons_succ]
        refine helds_take (i := 1) (d := some 65) (v := ?vwb_2) (by assumption) rfl rfl (by kernel_rfl) (fun _ _ _ h => h) ?ywb_2 ?_; case ywb_2 => (refine Or.inl ⟨rfl, fun wx hS => ?_⟩; go_simp; try with_reducible rfl)
        try simp only [Act.put, List.setIfInBounds_toArray, List.set_cons_zero, List.set_cons_succ]
        refine helds_take (i := 2) (d := some 66) (v := _) (by assumption) rfl rfl (by kernel_rfl) (fun _ _ _ h => h) (yields_cell1 (fun w => by kernel_rfl) (.tmp 65) rfl rfl (fun wx hx => CB.at_ hx (i := 2) rfl) rfl) ?_
        try simp only [Act.put, List.setIfInBounds_toArray, List.set_cons_zero, List.set_cons_succ]
        refine helds_take (i := 3) (d := some 67) (v := ?vwb_4) (by assumption) rfl rfl (by kernel_rfl) (fun _ _ _ h => h) ?ywb_4 ?_; case ywb_4 => (refine Or.inl ⟨rfl, fun wx hS => ?_⟩; go_simp; try with_reducible rfl)
        try simp only [Act.put, List.setIfInBounds_toArray, List.set_cons_zero, List.set_cons_succ]
        refine helds_take (i := 5) (d := some 69) (v := ?vwb_5) (by assumption) rfl rfl (by kernel_rfl) (fun _ _ _ h => h) ?ywb_5 ?_; case ywb_5 => (refine Or.inl ⟨rfl, fun wx hS => ?_⟩; go_simp; try with_reducible rfl)
        try simp only [Act.put, List.setIfInBounds_toArray, List.set_cons_zero, List.set_cons_succ]
        refine helds_take (i := 6) (d := some 70) (v := ?vwb_6) (by assumption) rfl rfl (by kernel_rfl) (fun _ _ _ h => h) ?ywb_6 ?_; case ywb_6 => (refine Or.inl ⟨rfl, fun wx hS => ?_⟩; go_simp; try with_reducible rfl)
        try simp only [Act.put, List.setIfInBounds_toArray, List.set_cons_zero, List.set_cons_succ]
        refine helds_take (i := 7) (d := some 71) (v := _) (by assumption) rfl rfl (by kernel_rfl) (fun _ _ _ h => h) (yields_cell1 (fun w => by kernel_rfl) (.tmp 70) rfl rfl (fun wx hx => CB.at_ hx (i := 2) rfl) rfl) ?_
        try simp only [Act.put, List.setIfInBounds_toArray, List.set_cons_zero, List.set_cons_succ]
        refine helds_take (i := 8) (d := some 72) (v := _) (by assumption) rfl rfl (by kernel_rfl) (fun _ _ _ h => h) (yields_load6 (p := [.int .i64 ok, .int .i64 osd, .int .i64 oc, .int .i64 oz, .int .i64 ofc, .slice V ln cV]) aggO (.tmp 6) rfl rfl (fun _ hx => hx) rfl (by simp) rfl) ?_
        try simp only [Act.put, List.setIfInBounds_toArray, List.set_cons_zero, List.set_cons_succ]
        refine helds_take (i := 10) (d := some 74) (v := ?vwb_9) (by assumption) rfl rfl (by kernel_rfl) (fun _ _ _ h => h) ?ywb_9 ?_; case ywb_9 => (refine Or.inl ⟨rfl, fun wx hS => ?_⟩; go_simp; try with_reducible rfl)
        try simp only [Act.put, List.setIfInBounds_toArray, List.set_cons_zero, List.set_cons_succ]
        refine helds_one (i := 4) rfl (by kernel_rfl) rfl (fun K hK => ?_)
        refine wp_callD (d := some 68) (f := 25) (args := #[.pointer (some ⟨m, 0, none⟩), .int .i64 oc, .slice A5 sz c5]) rfl (by first | rfl | go_simp) ?_
        refine (muA MD.out.mx LC.out oc HOC.out.1 A5 (textB sz k) sz c5 (textB_len _ _) ((OwnB.rb_ O5.out).drewx hxd) (by have := SZ.out.2; omega)).mono ?_
        rintro e x6 ⟨rfl, us6, vs6, k6, g6⟩
        refine ⟨_, rfl, ?_⟩
        have O6 := Lib.hid ((O5.out.drewx hxd).mod g6.1 (fun g hg hs => by have h1 := O5.out.lt g hg; have h2 := OM.out g hs; omega))
        have OM6 := Lib.hid (OM.out.step g6 (by rw [← hxd]; exact Nat.le_refl _))
        have M6 := Lib.hid (MD.out.stepM k6 g6)
        have HZ6 := Lib.hid (show x5.heap.size ≤ x6.heap.size by have := g6.1.size; rw [← hxd] at this; exact this)
        have hs6 := M6.out.cb
        clear k6 g6
        refine hK.out _ _ (by assumption) (fun _ => ?_)
        clear hK K
        try simp only [Act.put, List.setIfInBounds_toArray, List.set_cons_zero, List.set_cons_succ]
        refine helds_one (i := 9) rfl (by kernel_rfl) rfl (fun K hK => ?_)
        refine wp_callD (d := some 73) (f := 24) (args := #[.agg #[.int .i64 ok, .int .i64 osd, .int .i64 oc, .int .i64 oz, .int .i64 ofc, .slice V ln cV]]) rfl (by first | rfl | go_simp) ?_
        refine (size_any _ ok osd oc oz ofc V ln cV).mono ?_
        rw [SZ.out.1]
        rintro e x7 ⟨rfl, g7⟩
        refine ⟨_, rfl, ?_⟩
        have O7 := Lib.hid (OwnB.none_ O6.out g7)
        have M7 := Lib.hid (M6.out.made g7)
        have HZ7 := Lib.hid (Nat.le_trans HZ6.out g7.size)
        have hs7 := M7.out.cb
        clear g7
        refine hK.out _ _ (by assumption) (fun _ => ?_)
        clear hK K
        try simp only [Act.put, List.setIfInBounds_toArray, List.set_cons_zero, List.set_cons_succ]
        refine helds_one (i := 11) rfl (by kernel_rfl) rfl (fun K hK => ?_)
        refine wp_callD (d := some 75) (f := 23) (args := #[.int .i64 (sz : Int), .int .i64 (k : Int)]) rfl (by first | rfl | go_simp) ?_
        refine (text_any _ sz k (by have := SZ.out.2; omega) (by omega)).mono ?_
        rintro e x8 ⟨A8, c8, rfl, o8, g8⟩
        refine ⟨_, rfl, ?_⟩
        have O8 := Lib.hid (OwnB.none_ O7.out g8)
        have R8 := Lib.hid (OwnB.rb_ o8)
        have M8 := Lib.hid (M7.out.made g8)
        have hs8 := M8.out.cb
        have GE8 := Lib.hid g8.size
        clear g8 o8
        refine hK.out _ _ (by assumption) (fun _ => ?_)
        clear hK K
        try simp only [Act.put, List.setIfInBounds_toArray, List.set_cons_zero, List.set_cons_succ]
        refine helds_one (i := 12) rfl (by kernel_rfl) rfl (fun K hK => ?_)
        refine wp_callD (d := some 76) (f := 26) (args := #[.pointer (some ⟨n, 0, none⟩), .int .i64 oc, .slice A8 sz c8]) rfl (by first | rfl | go_simp) ?_
        refine (rwrite_any _ _ _ _ _ _ C (10000 * k) M8.out.rx RL0.out LC.out BD0.out (by omega) oc HOC.out.1 A8 (textB sz k) sz c8 (textB_len _ _) R8.out (by have := SZ.out.2; omega)).mono ?_
        rintro e x9 ⟨rfl, us9, vs9, D9, k9, rl9, bd9, g9⟩
        refine ⟨_, rfl, ?_⟩
        have O9 := Lib.hid (O8.out.mod g9.1 (fun g hg e => by have h1 := O8.out.lt g hg; have h2 := OR.out n (.inl rfl); omega))
        have M9 := Lib.hid (M8.out.stepR k9 g9)
        have RLF := Lib.hid rl9
        have LMF := Lib.hid (LC.out.muW oc (textB sz k))
        have BDF := Lib.hid (show RbA (10000 * (k + 1)) D9 from fun i hi => ⟨by have := (bd9 i hi).1; have := SZ.out.2; omega, by have := (bd9 i hi).2; have := SZ.out.2; omega⟩)
        have RO9 := Lib.hid (show ∀ z, w4.heap.size ≤ z → z < x5.heap.size → ¬ rxS n us9 vs9 z from fun z h1 h2 hz => by
          rcases g9.2 z hz with e | e
          · have := OR.out z e; omega
          · have := HZ7.out; have := M8.out.gr.size; have := GE8.out; omega)
        have hs9 := M9.out.cb
        clear k9 rl9 bd9 g9
        refine hK.out _ _ (by assumption) (fun _ => ?_)
        clear hK K
        try simp only [Act.put, List.setIfInBounds_toArray, List.set_cons_zero, List.set_cons_succ]
        refine helds_take (i := 13) (d := some 77) (v := ?vwb_10) (by assumption) rfl rfl (by kernel_rfl) (fun _ _ _ h => h) ?ywb_10 ?_; case ywb_10 => (refine Or.inl ⟨rfl, fun wx hS => ?_⟩; go_simp; try with_reducible rfl)
        try simp only [Act.put, List.setIfInBounds_toArray, List.set_cons_zero, List.set_cons_succ]
        refine held_end (by kernel_rfl) ?_ _
        clear hsd hs6 hs7 hs8 hs9 hxd
        generalize (muW C oc (textB sz k)).2 = CF at *
        generalize (muW C oc (textB sz k)).1 = en at *
        have IC := Lib.hid (own_CB' O9.out)
        have NIL := Lib.hid (show A5 = none → sz = 0 from fun e => by have h := OwnB.rb_ O9.out; rw [e] at h; have h2 := h.none_len'; have h3 := (OwnB.len_ O9.out); omega)
        have SZL := Lib.hid (show sz ≤ 9223372036854775807 by have := SZ.out.2; omega)
        have hszl := SZL.out
        go_wp2
        go_loopw [80] (fun s wq => ∃ j : Nat, s = .int .i64 j ∧ j ≤ sz ∧ Mod (fun z => (Value.slice A5 sz c5).ownBlock = some z) x9 wq ∧ ∀ g, (Value.slice A5 sz c5).ownBlock = some g → A5 = some ⟨g, 0, none⟩ ∧ sz ≤ c5 ∧ ∃ cs, CB wq g 5 cs ∧ cs.length = c5) (fun s _ => sz - (intOf s).toNat)
        case atStart => exact ⟨0, rfl, Nat.zero_le _, Mod.refl _ _, IC.out⟩
        case round =>
          obtain ⟨j, rfl, hj, hMj, hCj⟩ := hrel
          by_cases hjl : j < sz
          · obtain ⟨g2, hg2⟩ : ∃ g, (Value.slice A5 sz c5).ownBlock = some g := by
              cases A5 with
              | none => have := NIL.out rfl; omega
              | some a => exact ⟨a.block, rfl⟩
            obtain ⟨rfl, hlc, cs, hcs, hcl⟩ := hCj g2 hg2
            have MJ := Lib.hid hMj
            have CS := Lib.hid hcs
            have CL := Lib.hid hcl
            have hji : (j : Int) < (sz : Int) := by omega
            have hkeep := Lib.hid (show j < cs.length by rw [hcl]; omega)
            skip
            clear hMj hCj hcs hcl hg2
            go_wp2_with (refine wpList_setC (off := j) sz8' rfl (.tmp 85) (.const (.int .u8 238)) rfl .u8 238 CS.out hkeep.out (by first | rfl | go_simp) rfl ?_
                         intro wy hy gy
                         have CY := Lib.hid hy
                         have GY := Lib.hid gy
                         clear hy gy)
            go_wp2
            go_roundw
            case rel => exact ⟨j + 1, by go_num, by omega, MJ.out.grown GY.out (fun z hz _ => by injection hz with hz; subst hz; rfl), fun g hg => by injection hg with hg; subst hg; exact ⟨rfl, hlc, _, CY.out, by rw [List.length_set]; exact CL.out⟩⟩
            case measure => simp [intOf]; omega
          · obtain rfl : sz = j := by omega
            have MR := Lib.hid hMj
            clear hMj hCj hjl
            clear IC NIL SZL hszl
            have MF := Lib.hid (M9.out.row MR.out (fun z hz => by
              have h1 := O9.out.lt z hz
              have h2 := (OwnB.lt O8.out z hz)
              have h3 := (O5.out.lt z hz)
              have h4 := LH.out
              exact ⟨by have := M4.out.gr.size; omega, fun e => by have := OM6.out z e; omega, RO9.out z h1.1 h3.2, by omega⟩))
            go_wp2_with fail
            obtain ⟨xd, hxd⟩ : ∃ x, wr.drew = x := ⟨_, rfl⟩
            have GD := Lib.hid (show wr.grownBy xd none by rw [← hxd]; exact grown_drew (World.grownBy.refl _ none))
            have MD := Lib.hid (MF.out.made GD.out)
            have hsd := MD.out.cb
            refine helds_begin (fun x => CB x wo.heap.size 53 [.int .i64 ok, .int .i64 osd, .int .i64 oc, .int .i64 oz, .int .i64 ofc, .slice V ln cV]) (by kernel_rfl) (by rw [hxd]; exact MD.out.cb) (fun hb0 => ?_)
            try rw [hxd] at hb0
            try rw [hxd]
            refine helds_take (i := 0) (d := some 124) (v := ?vwbt_1) (by assumption) rfl rfl (by kernel_rfl) (fun _ _ _ h => h) ?ywbt_1 ?_; case ywbt_1 => (refine Or.inl ⟨rfl, fun wx hS => ?_⟩; go_simp; try with_reducible rfl)
            try simp only [Act.put, List.setIfInBounds_toArray, List.set_cons_zero, List.set_cons_succ]
            refine helds_take (i := 2) (d := some 126) (v := ?vwbt_2) (by assumption) rfl rfl (by kernel_rfl) (fun _ _ _ h => h) ?ywbt_2 ?_; case ywbt_2 => (refine Or.inl ⟨rfl, fun wx hS => ?_⟩; go_simp; try with_reducible rfl)
            try simp only [Act.put, List.setIfInBounds_toArray, List.set_cons_zero, List.set_cons_succ]
            refine helds_one (i := 1) rfl (by kernel_rfl) rfl (fun K hK => ?_)
            refine wp_callD (d := some 125) (f := 35) (args := #[.pointer (some ⟨m, 0, none⟩)]) rfl (by first | rfl | go_simp) ?_
            refine (muidle_any _ _ _ _ _ _ MD.out.mx).mono ?_
            rintro e wa ⟨rfl, da⟩
            refine ⟨_, rfl, ?_⟩
            have MA := Lib.hid (MD.out.made (da.made none))
            have hsa := MA.out.cb
            refine hK.out _ _ (by assumption) (fun _ => ?_)
            clear hK K
            try simp only [Act.put, List.setIfInBounds_toArray, List.set_cons_zero, List.set_cons_succ]
            refine helds_one (i := 3) rfl (by kernel_rfl) rfl (fun K hK => ?_)
            refine wp_callD (d := some 127) (f := 36) (args := #[.pointer (some ⟨n, 0, none⟩)]) rfl (by first | rfl | go_simp) ?_
            refine (ridle_any _ _ _ _ _ _ _ _ MA.out.rx RLF.out LMF.out BDF.out (by omega)).mono ?_
            rintro e wb ⟨rfl, gb⟩
            refine ⟨_, rfl, ?_⟩
            have MB := Lib.hid (MA.out.made gb)
            have hsb := MB.out.cb
            refine hK.out _ _ (by assumption) (fun _ => ?_)
            clear hK K
            try simp only [Act.put, List.setIfInBounds_toArray, List.set_cons_zero, List.set_cons_succ]
            refine helds_take (i := 4) (d := some 128) (v := ?vwbt_3) (by assumption) rfl rfl (by kernel_rfl) (fun _ _ _ h => h) ?ywbt_3 ?_; case ywbt_3 => (refine Or.inl ⟨rfl, fun wx hS => ?_⟩; go_simp; try with_reducible rfl)
            try simp only [Act.put, List.setIfInBounds_toArray, List.set_cons_zero, List.set_cons_succ]
            refine helds_take (i := 5) (d := some 129) (v := ?vwbt_4) (by assumption) rfl rfl (by kernel_rfl) (fun _ _ _ h => h) ?ywbt_4 ?_; case ywbt_4 => (refine Or.inl ⟨rfl, fun wx hS => ?_⟩; go_simp; try with_reducible rfl)
            try simp only [Act.put, List.setIfInBounds_toArray, List.set_cons_zero, List.set_cons_succ]
            refine helds_take (i := 6) (d := some 130) (v := ?vwbt_5) (by assumption) rfl rfl (by kernel_rfl) (fun _ _ _ h => h) ?ywbt_5 ?_; case ywbt_5 => (refine Or.inl ⟨rfl, fun wx hS => ?_⟩; go_simp; try with_reducible rfl)
            try simp only [Act.put, List.setIfInBounds_toArray, List.set_cons_zero, List.set_cons_succ]
            refine helds_take (i := 7) (d := some 131) (v := ?vwbt_6) (by assumption) rfl rfl (by kernel_rfl) (fun _ _ _ h => h) ?ywbt_6 ?_; case ywbt_6 => (refine Or.inl ⟨rfl, fun wx hS => ?_⟩; go_simp; try with_reducible rfl)
            try simp only [Act.put, List.setIfInBounds_toArray, List.set_cons_zero, List.set_cons_succ]
            refine helds_take (i := 8) (d := some 132) (v := _) (by assumption) rfl rfl (by kernel_rfl) (fun _ _ _ h => h) (yields_cell1 (fun w => by kernel_rfl) (.tmp 131) rfl rfl (fun wx hx => CB.at_ hx (i := 2) rfl) rfl) ?_
            try simp only [Act.put, List.setIfInBounds_toArray, List.set_cons_zero, List.set_cons_succ]
            refine helds_take (i := 10) (d := some 134) (v := ?vwbt_8) (by assumption) rfl rfl (by kernel_rfl) (fun _ _ _ h => h) ?ywbt_8 ?_; case ywbt_8 => (refine Or.inl ⟨rfl, fun wx hS => ?_⟩; go_simp; try with_reducible rfl)
            try simp only [Act.put, List.setIfInBounds_toArray, List.set_cons_zero, List.set_cons_succ]
            refine helds_take (i := 11) (d := some 135) (v := ?vwbt_9) (by assumption) rfl rfl (by kernel_rfl) (fun _ _ _ h => h) ?ywbt_9 ?_; case ywbt_9 => (refine Or.inl ⟨rfl, fun wx hS => ?_⟩; go_simp; try with_reducible rfl)
            try simp only [Act.put, List.setIfInBounds_toArray, List.set_cons_zero, List.set_cons_succ]
            refine helds_take (i := 12) (d := some 136) (v := _) (by assumption) rfl rfl (by kernel_rfl) (fun _ _ _ h => h) (yields_cell1 (fun w => by kernel_rfl) (.tmp 135) rfl rfl (fun wx hx => CB.at_ hx (i := 2) rfl) rfl) ?_
            try simp only [Act.put, List.setIfInBounds_toArray, List.set_cons_zero, List.set_cons_succ]
            refine helds_one (i := 9) rfl (by kernel_rfl) rfl (fun K hK => ?_)
            refine wp_callD (d := some 133) (f := 37) (args := #[.pointer (some ⟨m, 0, none⟩), .int .i64 oc]) rfl (by first | rfl | go_simp) ?_
            refine (muended_any _ _ _ _ _ _ MB.out.mx oc HOC.out.1).mono ?_
            rintro e wc ⟨rfl, dc⟩
            refine ⟨_, rfl, ?_⟩
            have MC := Lib.hid (MB.out.made (dc.made none))
            have hsc := MC.out.cb
            refine hK.out _ _ (by assumption) (fun _ => ?_)
            clear hK K
            try simp only [Act.put, List.setIfInBounds_toArray, List.set_cons_zero, List.set_cons_succ]
            refine helds_one (i := 13) rfl (by kernel_rfl) rfl (fun K hK => ?_)
            refine wp_callD (d := some 137) (f := 38) (args := #[.pointer (some ⟨n, 0, none⟩), .int .i64 oc]) rfl (by first | rfl | go_simp) ?_
            refine (rended_any _ _ _ _ _ _ _ MC.out.rx RLF.out oc HOC.out.1).mono ?_
            rintro e we ⟨rfl, de⟩
            refine ⟨_, rfl, ?_⟩
            have ME := Lib.hid (MC.out.made (de.made none))
            have hse := ME.out.cb
            refine hK.out _ _ (by assumption) (fun _ => ?_)
            clear hK K
            try simp only [Act.put, List.setIfInBounds_toArray, List.set_cons_zero, List.set_cons_succ]
            refine helds_take (i := 14) (d := some 138) (v := ?vwbt_11) (by assumption) rfl rfl (by kernel_rfl) (fun _ _ _ h => h) ?ywbt_11 ?_; case ywbt_11 => (refine Or.inl ⟨rfl, fun wx hS => ?_⟩; go_simp; try with_reducible rfl)
            try simp only [Act.put, List.setIfInBounds_toArray, List.set_cons_zero, List.set_cons_succ]
            refine helds_take (i := 15) (d := some 139) (v := ?vwbt_12) (by assumption) rfl rfl (by kernel_rfl) (fun _ _ _ h => h) ?ywbt_12 ?_; case ywbt_12 => (refine Or.inl ⟨rfl, fun wx hS => ?_⟩; go_simp; try with_reducible rfl)
            try simp only [Act.put, List.setIfInBounds_toArray, List.set_cons_zero, List.set_cons_succ]
            refine held_end (by kernel_rfl) ?_ _
            clear hsd hsa hsb hsc hse
            go_wp2
            go_roundw
            case rel => exact ⟨k + 1, _, _, _, _, _, _, by go_num, by omega, ME.out.mx, ME.out.rx, ME.out.ap, ME.out.gr, RLF.out, LMF.out, BDF.out⟩
            case measure => simp [intOf]; omega
      by_cases e2 : k7 = 2
      · subst e2
        go_wp2_with fail
        obtain ⟨xd, hxd⟩ : ∃ x, (wo.alloc (.cells #[.int .i64 ok, .int .i64 osd, .int .i64 oc, .int .i64 oz, .int .i64 ofc, .slice V ln cV] 53)).drew = x := ⟨_, rfl⟩
        have GD := Lib.hid (show (wo.alloc (.cells #[.int .i64 ok, .int .i64 osd, .int .i64 oc, .int .i64 oz, .int .i64 ofc, .slice V ln cV] 53)).grownBy xd none by rw [← hxd]; exact grown_drew (World.grownBy.refl _ none))
        have MD := Lib.hid (MO0.out.made GD.out)
        have hsd := MD.out.cb
        refine helds_begin (fun x => CB x wo.heap.size 53 [.int .i64 ok, .int .i64 osd, .int .i64 oc, .int .i64 oz, .int .i64 ofc, .slice V ln cV]) (by kernel_rfl) (by rw [hxd]; exact MD.out.cb) (fun hb0 => ?_)
        try rw [hxd] at hb0
        try rw [hxd]
        refine helds_take (i := 0) (d := some 89) (v := ?vcl_1) (by assumption) rfl rfl (by kernel_rfl) (fun _ _ _ h => h) ?ycl_1 ?_; case ycl_1 => (refine Or.inl ⟨rfl, fun wx hS => ?_⟩; go_simp; try with_reducible rfl)
        try simp only [Act.put, List.setIfInBounds_toArray, List.set_cons_zero, List.set_cons_succ]
        refine helds_take (i := 1) (d := some 90) (v := ?vcl_2) (by assumption) rfl rfl (by kernel_rfl) (fun _ _ _ h => h) ?ycl_2 ?_; case ycl_2 => (refine Or.inl ⟨rfl, fun wx hS => ?_⟩; go_simp; try with_reducible rfl)
        try simp only [Act.put, List.setIfInBounds_toArray, List.set_cons_zero, List.set_cons_succ]
        refine helds_take (i := 2) (d := some 91) (v := _) (by assumption) rfl rfl (by kernel_rfl) (fun _ _ _ h => h) (yields_cell1 (fun w => by kernel_rfl) (.tmp 90) rfl rfl (fun wx hx => CB.at_ hx (i := 2) rfl) rfl) ?_
        try simp only [Act.put, List.setIfInBounds_toArray, List.set_cons_zero, List.set_cons_succ]
        refine helds_take (i := 4) (d := some 93) (v := ?vcl_4) (by assumption) rfl rfl (by kernel_rfl) (fun _ _ _ h => h) ?ycl_4 ?_; case ycl_4 => (refine Or.inl ⟨rfl, fun wx hS => ?_⟩; go_simp; try with_reducible rfl)
        try simp only [Act.put, List.setIfInBounds_toArray, List.set_cons_zero, List.set_cons_succ]
        refine helds_take (i := 5) (d := some 94) (v := ?vcl_5) (by assumption) rfl rfl (by kernel_rfl) (fun _ _ _ h => h) ?ycl_5 ?_; case ycl_5 => (refine Or.inl ⟨rfl, fun wx hS => ?_⟩; go_simp; try with_reducible rfl)
        try simp only [Act.put, List.setIfInBounds_toArray, List.set_cons_zero, List.set_cons_succ]
        refine helds_take (i := 6) (d := some 95) (v := _) (by assumption) rfl rfl (by kernel_rfl) (fun _ _ _ h => h) (yields_cell1 (fun w => by kernel_rfl) (.tmp 94) rfl rfl (fun wx hx => CB.at_ hx (i := 2) rfl) rfl) ?_
        try simp only [Act.put, List.setIfInBounds_toArray, List.set_cons_zero, List.set_cons_succ]
        refine helds_one (i := 3) rfl (by kernel_rfl) rfl (fun K hK => ?_)
        refine wp_callD (d := some 92) (f := 27) (args := #[.pointer (some ⟨m, 0, none⟩), .int .i64 oc]) rfl (by first | rfl | go_simp) ?_
        refine (muclose_any _ _ _ _ _ _ MD.out.mx oc HOC.out.1).mono ?_
        rintro e x6 ⟨rfl, us6, vs6, k6, g6⟩
        refine ⟨_, rfl, ?_⟩
        have M6 := Lib.hid (MD.out.stepM k6 g6)
        have hs6 := M6.out.cb
        clear k6 g6
        refine hK.out _ _ (by assumption) (fun _ => ?_)
        clear hK K
        try simp only [Act.put, List.setIfInBounds_toArray, List.set_cons_zero, List.set_cons_succ]
        refine helds_one (i := 7) rfl (by kernel_rfl) rfl (fun K hK => ?_)
        refine wp_callD (d := some 96) (f := 28) (args := #[.pointer (some ⟨n, 0, none⟩), .int .i64 oc]) rfl (by first | rfl | go_simp) ?_
        refine (rclose_any _ _ _ _ _ _ C (10000 * k) M6.out.rx RL0.out BD0.out oc HOC.out.1).mono ?_
        rintro e x9 ⟨rfl, us9, vs9, D9, k9, rl9, bd9, g9⟩
        refine ⟨_, rfl, ?_⟩
        have MF := Lib.hid (M6.out.stepR k9 g9)
        have RLF := Lib.hid rl9
        have LMF := Lib.hid (LC.out.muC oc)
        have BDF := Lib.hid (show RbA (10000 * (k + 1)) D9 from fun i hi => ⟨by have := (bd9 i hi).1; omega, by have := (bd9 i hi).2; omega⟩)
        have hs9 := MF.out.cb
        clear k9 rl9 bd9 g9
        refine hK.out _ _ (by assumption) (fun _ => ?_)
        clear hK K
        try simp only [Act.put, List.setIfInBounds_toArray, List.set_cons_zero, List.set_cons_succ]
        refine helds_take (i := 8) (d := some 97) (v := ?vcl_7) (by assumption) rfl rfl (by kernel_rfl) (fun _ _ _ h => h) ?ycl_7 ?_; case ycl_7 => (refine Or.inl ⟨rfl, fun wx hS => ?_⟩; go_simp; try with_reducible rfl)
        try simp only [Act.put, List.setIfInBounds_toArray, List.set_cons_zero, List.set_cons_succ]
        refine held_end (by kernel_rfl) ?_ _
        clear hsd hs6 hs9 hxd
        generalize (muC C oc).2 = CF at *
        generalize (muC C oc).1 = en at *
        go_wp2_with fail
        obtain ⟨xd, hxd⟩ : ∃ x, x9.drew = x := ⟨_, rfl⟩
        have GD := Lib.hid (show x9.grownBy xd none by rw [← hxd]; exact grown_drew (World.grownBy.refl _ none))
        have MD := Lib.hid (MF.out.made GD.out)
        have hsd := MD.out.cb
        refine helds_begin (fun x => CB x wo.heap.size 53 [.int .i64 ok, .int .i64 osd, .int .i64 oc, .int .i64 oz, .int .i64 ofc, .slice V ln cV]) (by kernel_rfl) (by rw [hxd]; exact MD.out.cb) (fun hb0 => ?_)
        try rw [hxd] at hb0
        try rw [hxd]
        refine helds_take (i := 0) (d := some 124) (v := ?vclt_1) (by assumption) rfl rfl (by kernel_rfl) (fun _ _ _ h => h) ?yclt_1 ?_; case yclt_1 => (refine Or.inl ⟨rfl, fun wx hS => ?_⟩; go_simp; try with_reducible rfl)
        try simp only [Act.put, List.setIfInBounds_toArray, List.set_cons_zero, List.set_cons_succ]
        refine helds_take (i := 2) (d := some 126) (v := ?vclt_2) (by assumption) rfl rfl (by kernel_rfl) (fun _ _ _ h => h) ?yclt_2 ?_; case yclt_2 => (refine Or.inl ⟨rfl, fun wx hS => ?_⟩; go_simp; try with_reducible rfl)
        try simp only [Act.put, List.setIfInBounds_toArray, List.set_cons_zero, List.set_cons_succ]
        refine helds_one (i := 1) rfl (by kernel_rfl) rfl (fun K hK => ?_)
        refine wp_callD (d := some 125) (f := 35) (args := #[.pointer (some ⟨m, 0, none⟩)]) rfl (by first | rfl | go_simp) ?_
        refine (muidle_any _ _ _ _ _ _ MD.out.mx).mono ?_
        rintro e wa ⟨rfl, da⟩
        refine ⟨_, rfl, ?_⟩
        have MA := Lib.hid (MD.out.made (da.made none))
        have hsa := MA.out.cb
        refine hK.out _ _ (by assumption) (fun _ => ?_)
        clear hK K
        try simp only [Act.put, List.setIfInBounds_toArray, List.set_cons_zero, List.set_cons_succ]
        refine helds_one (i := 3) rfl (by kernel_rfl) rfl (fun K hK => ?_)
        refine wp_callD (d := some 127) (f := 36) (args := #[.pointer (some ⟨n, 0, none⟩)]) rfl (by first | rfl | go_simp) ?_
        refine (ridle_any _ _ _ _ _ _ _ _ MA.out.rx RLF.out LMF.out BDF.out (by omega)).mono ?_
        rintro e wb ⟨rfl, gb⟩
        refine ⟨_, rfl, ?_⟩
        have MB := Lib.hid (MA.out.made gb)
        have hsb := MB.out.cb
        refine hK.out _ _ (by assumption) (fun _ => ?_)
        clear hK K
        try simp only [Act.put, List.setIfInBounds_toArray, List.set_cons_zero, List.set_cons_succ]
        refine helds_take (i := 4) (d := some 128) (v := ?vclt_3) (by assumption) rfl rfl (by kernel_rfl) (fun _ _ _ h => h) ?yclt_3 ?_; case yclt_3 => (refine Or.inl ⟨rfl, fun wx hS => ?_⟩; go_simp; try with_reducible rfl)
        try simp only [Act.put, List.setIfInBounds_toArray, List.set_cons_zero, List.set_cons_succ]
        refine helds_take (i := 5) (d := some 129) (v := ?vclt_4) (by assumption) rfl rfl (by kernel_rfl) (fun _ _ _ h => h) ?yclt_4 ?_; case yclt_4 => (refine Or.inl ⟨rfl, fun wx hS => ?_⟩; go_simp; try with_reducible rfl)
        try simp only [Act.put, List.setIfInBounds_toArray, List.set_cons_zero, List.set_cons_succ]
        refine helds_take (i := 6) (d := some 130) (v := ?vclt_5) (by assumption) rfl rfl (by kernel_rfl) (fun _ _ _ h => h) ?yclt_5 ?_; case yclt_5 => (refine Or.inl ⟨rfl, fun wx hS => ?_⟩; go_simp; try with_reducible rfl)
        try simp only [Act.put, List.setIfInBounds_toArray, List.set_cons_zero, List.set_cons_succ]
        refine helds_take (i := 7) (d := some 131) (v := ?vclt_6) (by assumption) rfl rfl (by kernel_rfl) (fun _ _ _ h => h) ?yclt_6 ?_; case yclt_6 => (refine Or.inl ⟨rfl, fun wx hS => ?_⟩; go_simp; try with_reducible rfl)
        try simp only [Act.put, List.setIfInBounds_toArray, List.set_cons_zero, List.set_cons_succ]
        refine helds_take (i := 8) (d := some 132) (v := _) (by assumption) rfl rfl (by kernel_rfl) (fun _ _ _ h => h) (yields_cell1 (fun w => by kernel_rfl) (.tmp 131) rfl rfl (fun wx hx => CB.at_ hx (i := 2) rfl) rfl) ?_
        try simp only [Act.put, List.setIfInBounds_toArray, List.set_cons_zero, List.set_cons_succ]
        refine helds_take (i := 10) (d := some 134) (v := ?vclt_8) (by assumption) rfl rfl (by kernel_rfl) (fun _ _ _ h => h) ?yclt_8 ?_; case yclt_8 => (refine Or.inl ⟨rfl, fun wx hS => ?_⟩; go_simp; try with_reducible rfl)
        try simp only [Act.put, List.setIfInBounds_toArray, List.set_cons_zero, List.set_cons_succ]
        refine helds_take (i := 11) (d := some 135) (v := ?vclt_9) (by assumption) rfl rfl (by kernel_rfl) (fun _ _ _ h => h) ?yclt_9 ?_; case yclt_9 => (refine Or.inl ⟨rfl, fun wx hS => ?_⟩; go_simp; try with_reducible rfl)
        try simp only [Act.put, List.setIfInBounds_toArray, List.set_cons_zero, List.set_cons_succ]
        refine helds_take (i := 12) (d := some 136) (v := _) (by assumption) rfl rfl (by kernel_rfl) (fun _ _ _ h => h) (yields_cell1 (fun w => by kernel_rfl) (.tmp 135) rfl rfl (fun wx hx => CB.at_ hx (i := 2) rfl) rfl) ?_
        try simp only [Act.put, List.setIfInBounds_toArray, List.set_cons_zero, List.set_cons_succ]
        refine helds_one (i := 9) rfl (by kernel_rfl) rfl (fun K hK => ?_)
        refine wp_callD (d := some 133) (f := 37) (args := #[.pointer (some ⟨m, 0, none⟩), .int .i64 oc]) rfl (by first | rfl | go_simp) ?_
        refine (muended_any _ _ _ _ _ _ MB.out.mx oc HOC.out.1).mono ?_
        rintro e wc ⟨rfl, dc⟩
        refine ⟨_, rfl, ?_⟩
        have MC := Lib.hid (MB.out.made (dc.made none))
        have hsc := MC.out.cb
        refine hK.out _ _ (by assumption) (fun _ => ?_)
        clear hK K
        try simp only [Act.put, List.setIfInBounds_toArray, List.set_cons_zero, List.set_cons_succ]
        refine helds_one (i := 13) rfl (by kernel_rfl) rfl (fun K hK => ?_)
        refine wp_callD (d := some 137) (f := 38) (args := #[.pointer (some ⟨n, 0, none⟩), .int .i64 oc]) rfl (by first | rfl | go_simp) ?_
        refine (rended_any _ _ _ _ _ _ _ MC.out.rx RLF.out oc HOC.out.1).mono ?_
        rintro e we ⟨rfl, de⟩
        refine ⟨_, rfl, ?_⟩
        have ME := Lib.hid (MC.out.made (de.made none))
        have hse := ME.out.cb
        refine hK.out _ _ (by assumption) (fun _ => ?_)
        clear hK K
        try simp only [Act.put, List.setIfInBounds_toArray, List.set_cons_zero, List.set_cons_succ]
        refine helds_take (i := 14) (d := some 138) (v := ?vclt_11) (by assumption) rfl rfl (by kernel_rfl) (fun _ _ _ h => h) ?yclt_11 ?_; case yclt_11 => (refine Or.inl ⟨rfl, fun wx hS => ?_⟩; go_simp; try with_reducible rfl)
        try simp only [Act.put, List.setIfInBounds_toArray, List.set_cons_zero, List.set_cons_succ]
        refine helds_take (i := 15) (d := some 139) (v := ?vclt_12) (by assumption) rfl rfl (by kernel_rfl) (fun _ _ _ h => h) ?yclt_12 ?_; case yclt_12 => (refine Or.inl ⟨rfl, fun wx hS => ?_⟩; go_simp; try with_reducible rfl)
        try simp only [Act.put, List.setIfInBounds_toArray, List.set_cons_zero, List.set_cons_succ]
        refine held_end (by kernel_rfl) ?_ _
        clear hsd hsa hsb hsc hse
        go_wp2
        go_roundw
        case rel => exact ⟨k + 1, _, _, _, _, _, _, by go_num, by omega, ME.out.mx, ME.out.rx, ME.out.ap, ME.out.gr, RLF.out, LMF.out, BDF.out⟩
        case measure => simp [intOf]; omega
      by_cases e3 : k7 = 3
      · subst e3
        obtain ⟨rdn, hrdn⟩ : ∃ x, rdK C oc oz = x := ⟨_, rfl⟩
        obtain ⟨rdb, hrdb⟩ : ∃ x, (muR C oc oz).1 = x := ⟨_, rfl⟩
        have RDK := Lib.hid hrdn
        have RDB := Lib.hid hrdb
        have RDN := Lib.hid (show rdb.length = rdn by rw [← hrdb, ← hrdn]; exact muR_len C oc oz)
        clear hrdn hrdb
        go_wp2_with fail
        obtain ⟨xd, hxd⟩ : ∃ x, (wo.alloc (.cells #[.int .i64 ok, .int .i64 osd, .int .i64 oc, .int .i64 oz, .int .i64 ofc, .slice V ln cV] 53)).drew = x := ⟨_, rfl⟩
        have GD := Lib.hid (show (wo.alloc (.cells #[.int .i64 ok, .int .i64 osd, .int .i64 oc, .int .i64 oz, .int .i64 ofc, .slice V ln cV] 53)).grownBy xd none by rw [← hxd]; exact grown_drew (World.grownBy.refl _ none))
        have MD := Lib.hid (MO0.out.made GD.out)
        have hsd := MD.out.cb
        refine helds_begin (fun x => CB x wo.heap.size 53 [.int .i64 ok, .int .i64 osd, .int .i64 oc, .int .i64 oz, .int .i64 ofc, .slice V ln cV]) (by kernel_rfl) (by rw [hxd]; exact MD.out.cb) (fun hb0 => ?_)
        try rw [hxd] at hb0
        try rw [hxd]
        refine helds_take (i := 0) (d := some 100) (v := ?vrd_1) (by assumption) rfl rfl (by kernel_rfl) (fun _ _ _ h => h) ?yrd_1 ?_; case yrd_1 => (refine Or.inl ⟨rfl, fun wx hS => ?_⟩; go_simp; try with_reducible rfl)
        try simp only [Act.put, List.setIfInBounds_toArray, List.set_cons_zero, List.set_cons_succ]
        refine helds_take (i := 1) (d := some 101) (v := ?vrd_2) (by assumption) rfl rfl (by kernel_rfl) (fun _ _ _ h => h) ?yrd_2 ?_; case yrd_2 => (refine Or.inl ⟨rfl, fun wx hS => ?_⟩; go_simp; try with_reducible rfl)
        try simp only [Act.put, List.setIfInBounds_toArray, List.set_cons_zero, List.set_cons_succ]
        refine helds_take (i := 2) (d := some 102) (v := _) (by assumption) rfl rfl (by kernel_rfl) (fun _ _ _ h => h) (yields_cell1 (fun w => by kernel_rfl) (.tmp 101) rfl rfl (fun wx hx => CB.at_ hx (i := 2) rfl) rfl) ?_
        try simp only [Act.put, List.setIfInBounds_toArray, List.set_cons_zero, List.set_cons_succ]
        refine helds_take (i := 3) (d := some 103) (v := ?vrd_4) (by assumption) rfl rfl (by kernel_rfl) (fun _ _ _ h => h) ?yrd_4 ?_; case yrd_4 => (refine Or.inl ⟨rfl, fun wx hS => ?_⟩; go_simp; try with_reducible rfl)
        try simp only [Act.put, List.setIfInBounds_toArray, List.set_cons_zero, List.set_cons_succ]
        refine helds_take (i := 4) (d := some 104) (v := _) (by assumption) rfl rfl (by kernel_rfl) (fun _ _ _ h => h) (yields_cell1 (fun w => by kernel_rfl) (.tmp 103) rfl rfl (fun wx hx => CB.at_ hx (i := 3) rfl) rfl) ?_
        try simp only [Act.put, List.setIfInBounds_toArray, List.set_cons_zero, List.set_cons_succ]
        refine helds_take (i := 7) (d := some 107) (v := ?vrd_6) (by assumption) rfl rfl (by kernel_rfl) (fun _ _ _ h => h) ?yrd_6 ?_; case yrd_6 => (refine Or.inl ⟨rfl, fun wx hS => ?_⟩; go_simp; try with_reducible rfl)
        try simp only [Act.put, List.setIfInBounds_toArray, List.set_cons_zero, List.set_cons_succ]
        refine helds_take (i := 8) (d := some 108) (v := ?vrd_7) (by assumption) rfl rfl (by kernel_rfl) (fun _ _ _ h => h) ?yrd_7 ?_; case yrd_7 => (refine Or.inl ⟨rfl, fun wx hS => ?_⟩; go_simp; try with_reducible rfl)
        try simp only [Act.put, List.setIfInBounds_toArray, List.set_cons_zero, List.set_cons_succ]
        refine helds_take (i := 9) (d := some 109) (v := _) (by assumption) rfl rfl (by kernel_rfl) (fun _ _ _ h => h) (yields_cell1 (fun w => by kernel_rfl) (.tmp 108) rfl rfl (fun wx hx => CB.at_ hx (i := 2) rfl) rfl) ?_
        try simp only [Act.put, List.setIfInBounds_toArray, List.set_cons_zero, List.set_cons_succ]
        refine helds_take (i := 10) (d := some 110) (v := ?vrd_9) (by assumption) rfl rfl (by kernel_rfl) (fun _ _ _ h => h) ?yrd_9 ?_; case yrd_9 => (refine Or.inl ⟨rfl, fun wx hS => ?_⟩; go_simp; try with_reducible rfl)
        try simp only [Act.put, List.setIfInBounds_toArray, List.set_cons_zero, List.set_cons_succ]
        refine helds_take (i := 11) (d := some 111) (v := _) (by assumption) rfl rfl (by kernel_rfl) (fun _ _ _ h => h) (yields_cell1 (fun w => by kernel_rfl) (.tmp 110) rfl rfl (fun wx hx => CB.at_ hx (i := 3) rfl) rfl) ?_
        try simp only [Act.put, List.setIfInBounds_toArray, List.set_cons_zero, List.set_cons_succ]
        refine helds_one (i := 5) rfl (by kernel_rfl) rfl (fun K hK => ?_)
        refine wp_callD (d := some 105) (f := 29) (args := #[.pointer (some ⟨m, 0, none⟩), .int .i64 oc, .int .i64 oz]) rfl (by first | rfl | go_simp) ?_
        refine (muG MD.out.mx LC.out oc oz HOC.out.1 HOC.out.2.1).mono ?_
        rw [RDK.out, RDB.out]
        rintro e x6 ⟨A6, c6, rfl, o6, us6, vs6, k6, g6, -⟩
        refine ⟨_, rfl, ?_⟩
        have M6 := Lib.hid (MD.out.stepM k6 g6)
        have O6 := Lib.hid o6
        have LT6 := Lib.hid (show n < xd.heap.size from MD.out.rx.cb.lt)
        have hs6 := M6.out.cb
        clear k6 g6 o6
        refine hK.out _ _ (by assumption) (fun _ => ?_)
        clear hK K
        try simp only [Act.put, List.setIfInBounds_toArray, List.set_cons_zero, List.set_cons_succ]
        refine helds_two (i := 6) (j := 12) (by kernel_rfl) rfl rfl rfl rfl (fun K hK => ?_) (fun K hK => ?_)
        · refine wp_valD (d := some 106) (v := .string ⟨rdb.toArray⟩) rfl ?_ ?_
          · have k := run_strN (n := rdn) RDN.out (OwnB.rb_ O6.out)
            clear hK K
            simp [execOp, go_sem, k]
            done
          refine hK.out _ _ (by assumption) (fun _ => ?_)
          clear hK K
          try simp only [Act.put, List.setIfInBounds_toArray, List.set_cons_zero, List.set_cons_succ]
          refine helds_one (i := 12) rfl (by kernel_rfl) rfl (fun K hK => ?_)
          refine wp_callD (d := some 112) (f := 30) (args := #[.pointer (some ⟨n, 0, none⟩), .int .i64 oc, .int .i64 oz]) rfl (by first | rfl | go_simp) ?_
          refine (rread_any _ _ _ _ _ _ C (10000 * k) M6.out.rx RL0.out BD0.out (by omega) oc oz HOC.out.1 HOC.out.2.1).mono ?_
          rw [RDK.out, RDB.out]
          rintro e x9 ⟨A9, c9, rfl, o9, us9, vs9, D9, k9, rl9, bd9, g9⟩
          refine ⟨_, rfl, ?_⟩
          have MF := Lib.hid (M6.out.stepR k9 g9)
          have P9 := Lib.hid o9
          have O9 := Lib.hid (O6.out.mod g9.1 (fun g hg e => by have h1 := O6.out.lt g hg; have := LT6.out; omega))
          have RLF := Lib.hid rl9
          have LMF := Lib.hid (LC.out.muR oc oz)
          have BDF := Lib.hid (show RbA (10000 * (k + 1)) D9 from fun i hi => ⟨by have := (bd9 i hi).1; omega, by have := (bd9 i hi).2; omega⟩)
          have hs9 := MF.out.cb
          clear k9 rl9 bd9 g9 o9
          refine hK.out _ _ (by assumption) (fun _ => ?_)
          clear hK K
          try simp only [Act.put, List.setIfInBounds_toArray, List.set_cons_zero, List.set_cons_succ]
          refine helds_one (i := 13) rfl (by kernel_rfl) rfl (fun K hK => ?_)
          refine wp_valD (d := some 113) (v := .string ⟨rdb.toArray⟩) rfl ?_ ?_
          · have k := run_strN (n := rdn) RDN.out (OwnB.rb_ P9.out)
            clear hK K
            simp [execOp, go_sem, k]
            done
          refine hK.out _ _ (by assumption) (fun _ => ?_)
          clear hK K
          try simp only [Act.put, List.setIfInBounds_toArray, List.set_cons_zero, List.set_cons_succ]
          refine helds_take (i := 14) (d := some 114) (v := ?vrd_11) (by assumption) rfl rfl (by kernel_rfl) (fun _ _ _ h => h) ?yrd_11 ?_; case yrd_11 => (refine Or.inl ⟨rfl, fun wx hS => ?_⟩; go_simp; try with_reducible rfl)
          try simp only [Act.put, List.setIfInBounds_toArray, List.set_cons_zero, List.set_cons_succ]
          refine held_end (by kernel_rfl) ?_ _
          generalize (muR C oc oz).2 = CF at *
          clear hsd hs6 hs9 hxd
          go_wp2_with fail
          obtain ⟨xd, hxd⟩ : ∃ x, x9.drew = x := ⟨_, rfl⟩
          have GD := Lib.hid (show x9.grownBy xd none by rw [← hxd]; exact grown_drew (World.grownBy.refl _ none))
          have MD := Lib.hid (MF.out.made GD.out)
          have hsd := MD.out.cb
          refine helds_begin (fun x => CB x wo.heap.size 53 [.int .i64 ok, .int .i64 osd, .int .i64 oc, .int .i64 oz, .int .i64 ofc, .slice V ln cV]) (by kernel_rfl) (by rw [hxd]; exact MD.out.cb) (fun hb0 => ?_)
          try rw [hxd] at hb0
          try rw [hxd]
          refine helds_take (i := 0) (d := some 124) (v := ?vrdt1_1) (by assumption) rfl rfl (by kernel_rfl) (fun _ _ _ h => h) ?yrdt1_1 ?_; case yrdt1_1 => (refine Or.inl ⟨rfl, fun wx hS => ?_⟩; go_simp; try with_reducible rfl)
          try simp only [Act.put, List.setIfInBounds_toArray, List.set_cons_zero, List.set_cons_succ]
          refine helds_take (i := 2) (d := some 126) (v := ?vrdt1_2) (by assumption) rfl rfl (by kernel_rfl) (fun _ _ _ h => h) ?yrdt1_2 ?_; case yrdt1_2 => (refine Or.inl ⟨rfl, fun wx hS => ?_⟩; go_simp; try with_reducible rfl)
          try simp only [Act.put, List.setIfInBounds_toArray, List.set_cons_zero, List.set_cons_succ]
          refine helds_one (i := 1) rfl (by kernel_rfl) rfl (fun K hK => ?_)
          refine wp_callD (d := some 125) (f := 35) (args := #[.pointer (some ⟨m, 0, none⟩)]) rfl (by first | rfl | go_simp) ?_
          refine (muidle_any _ _ _ _ _ _ MD.out.mx).mono ?_
          rintro e wa ⟨rfl, da⟩
          refine ⟨_, rfl, ?_⟩
          have MA := Lib.hid (MD.out.made (da.made none))
          have hsa := MA.out.cb
          refine hK.out _ _ (by assumption) (fun _ => ?_)
          clear hK K
          try simp only [Act.put, List.setIfInBounds_toArray, List.set_cons_zero, List.set_cons_succ]
          refine helds_one (i := 3) rfl (by kernel_rfl) rfl (fun K hK => ?_)
          refine wp_callD (d := some 127) (f := 36) (args := #[.pointer (some ⟨n, 0, none⟩)]) rfl (by first | rfl | go_simp) ?_
          refine (ridle_any _ _ _ _ _ _ _ _ MA.out.rx RLF.out LMF.out BDF.out (by omega)).mono ?_
          rintro e wb ⟨rfl, gb⟩
          refine ⟨_, rfl, ?_⟩
          have MB := Lib.hid (MA.out.made gb)
          have hsb := MB.out.cb
          refine hK.out _ _ (by assumption) (fun _ => ?_)
          clear hK K
          try simp only [Act.put, List.setIfInBounds_toArray, List.set_cons_zero, List.set_cons_succ]
          refine helds_take (i := 4) (d := some 128) (v := ?vrdt1_3) (by assumption) rfl rfl (by kernel_rfl) (fun _ _ _ h => h) ?yrdt1_3 ?_; case yrdt1_3 => (refine Or.inl ⟨rfl, fun wx hS => ?_⟩; go_simp; try with_reducible rfl)
          try simp only [Act.put, List.setIfInBounds_toArray, List.set_cons_zero, List.set_cons_succ]
          refine helds_take (i := 5) (d := some 129) (v := ?vrdt1_4) (by assumption) rfl rfl (by kernel_rfl) (fun _ _ _ h => h) ?yrdt1_4 ?_; case yrdt1_4 => (refine Or.inl ⟨rfl, fun wx hS => ?_⟩; go_simp; try with_reducible rfl)
          try simp only [Act.put, List.setIfInBounds_toArray, List.set_cons_zero, List.set_cons_succ]
          refine helds_take (i := 6) (d := some 130) (v := ?vrdt1_5) (by assumption) rfl rfl (by kernel_rfl) (fun _ _ _ h => h) ?yrdt1_5 ?_; case yrdt1_5 => (refine Or.inl ⟨rfl, fun wx hS => ?_⟩; go_simp; try with_reducible rfl)
          try simp only [Act.put, List.setIfInBounds_toArray, List.set_cons_zero, List.set_cons_succ]
          refine helds_take (i := 7) (d := some 131) (v := ?vrdt1_6) (by assumption) rfl rfl (by kernel_rfl) (fun _ _ _ h => h) ?yrdt1_6 ?_; case yrdt1_6 => (refine Or.inl ⟨rfl, fun wx hS => ?_⟩; go_simp; try with_reducible rfl)
          try simp only [Act.put, List.setIfInBounds_toArray, List.set_cons_zero, List.set_cons_succ]
          refine helds_take (i := 8) (d := some 132) (v := _) (by assumption) rfl rfl (by kernel_rfl) (fun _ _ _ h => h) (yields_cell1 (fun w => by kernel_rfl) (.tmp 131) rfl rfl (fun wx hx => CB.at_ hx (i := 2) rfl) rfl) ?_
          try simp only [Act.put, List.setIfInBounds_toArray, List.set_cons_zero, List.set_cons_succ]
          refine helds_take (i := 10) (d := some 134) (v := ?vrdt1_8) (by assumption) rfl rfl (by kernel_rfl) (fun _ _ _ h => h) ?yrdt1_8 ?_; case yrdt1_8 => (refine Or.inl ⟨rfl, fun wx hS => ?_⟩; go_simp; try with_reducible rfl)
          try simp only [Act.put, List.setIfInBounds_toArray, List.set_cons_zero, List.set_cons_succ]
          refine helds_take (i := 11) (d := some 135) (v := ?vrdt1_9) (by assumption) rfl rfl (by kernel_rfl) (fun _ _ _ h => h) ?yrdt1_9 ?_; case yrdt1_9 => (refine Or.inl ⟨rfl, fun wx hS => ?_⟩; go_simp; try with_reducible rfl)
          try simp only [Act.put, List.setIfInBounds_toArray, List.set_cons_zero, List.set_cons_succ]
          refine helds_take (i := 12) (d := some 136) (v := _) (by assumption) rfl rfl (by kernel_rfl) (fun _ _ _ h => h) (yields_cell1 (fun w => by kernel_rfl) (.tmp 135) rfl rfl (fun wx hx => CB.at_ hx (i := 2) rfl) rfl) ?_
          try simp only [Act.put, List.setIfInBounds_toArray, List.set_cons_zero, List.set_cons_succ]
          refine helds_one (i := 9) rfl (by kernel_rfl) rfl (fun K hK => ?_)
          refine wp_callD (d := some 133) (f := 37) (args := #[.pointer (some ⟨m, 0, none⟩), .int .i64 oc]) rfl (by first | rfl | go_simp) ?_
          refine (muended_any _ _ _ _ _ _ MB.out.mx oc HOC.out.1).mono ?_
          rintro e wc ⟨rfl, dc⟩
          refine ⟨_, rfl, ?_⟩
          have MC := Lib.hid (MB.out.made (dc.made none))
          have hsc := MC.out.cb
          refine hK.out _ _ (by assumption) (fun _ => ?_)
          clear hK K
          try simp only [Act.put, List.setIfInBounds_toArray, List.set_cons_zero, List.set_cons_succ]
          refine helds_one (i := 13) rfl (by kernel_rfl) rfl (fun K hK => ?_)
          refine wp_callD (d := some 137) (f := 38) (args := #[.pointer (some ⟨n, 0, none⟩), .int .i64 oc]) rfl (by first | rfl | go_simp) ?_
          refine (rended_any _ _ _ _ _ _ _ MC.out.rx RLF.out oc HOC.out.1).mono ?_
          rintro e we ⟨rfl, de⟩
          refine ⟨_, rfl, ?_⟩
          have ME := Lib.hid (MC.out.made (de.made none))
          have hse := ME.out.cb
          refine hK.out _ _ (by assumption) (fun _ => ?_)
          clear hK K
          try simp only [Act.put, List.setIfInBounds_toArray, List.set_cons_zero, List.set_cons_succ]
          refine helds_take (i := 14) (d := some 138) (v := ?vrdt1_11) (by assumption) rfl rfl (by kernel_rfl) (fun _ _ _ h => h) ?yrdt1_11 ?_; case yrdt1_11 => (refine Or.inl ⟨rfl, fun wx hS => ?_⟩; go_simp; try with_reducible rfl)
          try simp only [Act.put, List.setIfInBounds_toArray, List.set_cons_zero, List.set_cons_succ]
          refine helds_take (i := 15) (d := some 139) (v := ?vrdt1_12) (by assumption) rfl rfl (by kernel_rfl) (fun _ _ _ h => h) ?yrdt1_12 ?_; case yrdt1_12 => (refine Or.inl ⟨rfl, fun wx hS => ?_⟩; go_simp; try with_reducible rfl)
          try simp only [Act.put, List.setIfInBounds_toArray, List.set_cons_zero, List.set_cons_succ]
          refine held_end (by kernel_rfl) ?_ _
          clear hsd hsa hsb hsc hse
          go_wp2
          go_roundw
          case rel => exact ⟨k + 1, _, _, _, _, _, _, by go_num, by omega, ME.out.mx, ME.out.rx, ME.out.ap, ME.out.gr, RLF.out, LMF.out, BDF.out⟩
          case measure => simp [intOf]; omega
        · refine wp_callD (d := some 112) (f := 30) (args := #[.pointer (some ⟨n, 0, none⟩), .int .i64 oc, .int .i64 oz]) rfl (by first | rfl | go_simp) ?_
          refine (rread_any _ _ _ _ _ _ C (10000 * k) M6.out.rx RL0.out BD0.out (by omega) oc oz HOC.out.1 HOC.out.2.1).mono ?_
          rw [RDK.out, RDB.out]
          rintro e x9 ⟨A9, c9, rfl, o9, us9, vs9, D9, k9, rl9, bd9, g9⟩
          refine ⟨_, rfl, ?_⟩
          have MF := Lib.hid (M6.out.stepR k9 g9)
          have P9 := Lib.hid o9
          have O9 := Lib.hid (O6.out.mod g9.1 (fun g hg e => by have h1 := O6.out.lt g hg; have := LT6.out; omega))
          have RLF := Lib.hid rl9
          have LMF := Lib.hid (LC.out.muR oc oz)
          have BDF := Lib.hid (show RbA (10000 * (k + 1)) D9 from fun i hi => ⟨by have := (bd9 i hi).1; omega, by have := (bd9 i hi).2; omega⟩)
          have hs9 := MF.out.cb
          clear k9 rl9 bd9 g9 o9
          refine hK.out _ _ (by assumption) (fun _ => ?_)
          clear hK K
          try simp only [Act.put, List.setIfInBounds_toArray, List.set_cons_zero, List.set_cons_succ]
          refine helds_two (i := 6) (j := 13) (by kernel_rfl) rfl rfl rfl rfl (fun K hK => ?_) (fun K hK => ?_)
          · refine wp_valD (d := some 106) (v := .string ⟨rdb.toArray⟩) rfl ?_ ?_
            · have k := run_strN (n := rdn) RDN.out (OwnB.rb_ O9.out)
              clear hK K
              simp [execOp, go_sem, k]
              done
            refine hK.out _ _ (by assumption) (fun _ => ?_)
            clear hK K
            try simp only [Act.put, List.setIfInBounds_toArray, List.set_cons_zero, List.set_cons_succ]
            refine helds_one (i := 13) rfl (by kernel_rfl) rfl (fun K hK => ?_)
            refine wp_valD (d := some 113) (v := .string ⟨rdb.toArray⟩) rfl ?_ ?_
            · have k := run_strN (n := rdn) RDN.out (OwnB.rb_ P9.out)
              clear hK K
              simp [execOp, go_sem, k]
              done
            refine hK.out _ _ (by assumption) (fun _ => ?_)
            clear hK K
            try simp only [Act.put, List.setIfInBounds_toArray, List.set_cons_zero, List.set_cons_succ]
            refine helds_take (i := 14) (d := some 114) (v := ?vrd_12) (by assumption) rfl rfl (by kernel_rfl) (fun _ _ _ h => h) ?yrd_12 ?_; case yrd_12 => (refine Or.inl ⟨rfl, fun wx hS => ?_⟩; go_simp; try with_reducible rfl)
            try simp only [Act.put, List.setIfInBounds_toArray, List.set_cons_zero, List.set_cons_succ]
            refine held_end (by kernel_rfl) ?_ _
            generalize (muR C oc oz).2 = CF at *
            clear hsd hs6 hs9 hxd
            go_wp2_with fail
            obtain ⟨xd, hxd⟩ : ∃ x, x9.drew = x := ⟨_, rfl⟩
            have GD := Lib.hid (show x9.grownBy xd none by rw [← hxd]; exact grown_drew (World.grownBy.refl _ none))
            have MD := Lib.hid (MF.out.made GD.out)
            have hsd := MD.out.cb
            refine helds_begin (fun x => CB x wo.heap.size 53 [.int .i64 ok, .int .i64 osd, .int .i64 oc, .int .i64 oz, .int .i64 ofc, .slice V ln cV]) (by kernel_rfl) (by rw [hxd]; exact MD.out.cb) (fun hb0 => ?_)
            try rw [hxd] at hb0
            try rw [hxd]
            refine helds_take (i := 0) (d := some 124) (v := ?vrdt2_1) (by assumption) rfl rfl (by kernel_rfl) (fun _ _ _ h => h) ?yrdt2_1 ?_; case yrdt2_1 => (refine Or.inl ⟨rfl, fun wx hS => ?_⟩; go_simp; try with_reducible rfl)
            try simp only [Act.put, List.setIfInBounds_toArray, List.set_cons_zero, List.set_cons_succ]
            refine helds_take (i := 2) (d := some 126) (v := ?vrdt2_2) (by assumption) rfl rfl (by kernel_rfl) (fun _ _ _ h => h) ?yrdt2_2 ?_; case yrdt2_2 => (refine Or.inl ⟨rfl, fun wx hS => ?_⟩; go_simp; try with_reducible rfl)
            try simp only [Act.put, List.setIfInBounds_toArray, List.set_cons_zero, List.set_cons_succ]
            refine helds_one (i := 1) rfl (by kernel_rfl) rfl (fun K hK => ?_)
            refine wp_callD (d := some 125) (f := 35) (args := #[.pointer (some ⟨m, 0, none⟩)]) rfl (by first | rfl | go_simp) ?_
            refine (muidle_any _ _ _ _ _ _ MD.out.mx).mono ?_
            rintro e wa ⟨rfl, da⟩
            refine ⟨_, rfl, ?_⟩
            have MA := Lib.hid (MD.out.made (da.made none))
            have hsa := MA.out.cb
            refine hK.out _ _ (by assumption) (fun _ => ?_)
            clear hK K
            try simp only [Act.put, List.setIfInBounds_toArray, List.set_cons_zero, List.set_cons_succ]
            refine helds_one (i := 3) rfl (by kernel_rfl) rfl (fun K hK => ?_)
            refine wp_callD (d := some 127) (f := 36) (args := #[.pointer (some ⟨n, 0, none⟩)]) rfl (by first | rfl | go_simp) ?_
            refine (ridle_any _ _ _ _ _ _ _ _ MA.out.rx RLF.out LMF.out BDF.out (by omega)).mono ?_
            rintro e wb ⟨rfl, gb⟩
            refine ⟨_, rfl, ?_⟩
            have MB := Lib.hid (MA.out.made gb)
            have hsb := MB.out.cb
            refine hK.out _ _ (by assumption) (fun _ => ?_)
            clear hK K
            try simp only [Act.put, List.setIfInBounds_toArray, List.set_cons_zero, List.set_cons_succ]
            refine helds_take (i := 4) (d := some 128) (v := ?vrdt2_3) (by assumption) rfl rfl (by kernel_rfl) (fun _ _ _ h => h) ?yrdt2_3 ?_; case yrdt2_3 => (refine Or.inl ⟨rfl, fun wx hS => ?_⟩; go_simp; try with_reducible rfl)
            try simp only [Act.put, List.setIfInBounds_toArray, List.set_cons_zero, List.set_cons_succ]
            refine helds_take (i := 5) (d := some 129) (v := ?vrdt2_4) (by assumption) rfl rfl (by kernel_rfl) (fun _ _ _ h => h) ?yrdt2_4 ?_; case yrdt2_4 => (refine Or.inl ⟨rfl, fun wx hS => ?_⟩; go_simp; try with_reducible rfl)
            try simp only [Act.put, List.setIfInBounds_toArray, List.set_cons_zero, List.set_cons_succ]
            refine helds_take (i := 6) (d := some 130) (v := ?vrdt2_5) (by assumption) rfl rfl (by kernel_rfl) (fun _ _ _ h => h) ?yrdt2_5 ?_; case yrdt2_5 => (refine Or.inl ⟨rfl, fun wx hS => ?_⟩; go_simp; try with_reducible rfl)
            try simp only [Act.put, List.setIfInBounds_toArray, List.set_cons_zero, List.set_cons_succ]
            refine helds_take (i := 7) (d := some 131) (v := ?vrdt2_6) (by assumption) rfl rfl (by kernel_rfl) (fun _ _ _ h => h) ?yrdt2_6 ?_; case yrdt2_6 => (refine Or.inl ⟨rfl, fun wx hS => ?_⟩; go_simp; try with_reducible rfl)
            try simp only [Act.put, List.setIfInBounds_toArray, List.set_cons_zero, List.set_cons_succ]
            refine helds_take (i := 8) (d := some 132) (v := _) (by assumption) rfl rfl (by kernel_rfl) (fun _ _ _ h => h) (yields_cell1 (fun w => by kernel_rfl) (.tmp 131) rfl rfl (fun wx hx => CB.at_ hx (i := 2) rfl) rfl) ?_
            try simp only [Act.put, List.setIfInBounds_toArray, List.set_cons_zero, List.set_cons_succ]
            refine helds_take (i := 10) (d := some 134) (v := ?vrdt2_8) (by assumption) rfl rfl (by kernel_rfl) (fun _ _ _ h => h) ?yrdt2_8 ?_; case yrdt2_8 => (refine Or.inl ⟨rfl, fun wx hS => ?_⟩; go_simp; try with_reducible rfl)
            try simp only [Act.put, List.setIfInBounds_toArray, List.set_cons_zero, List.set_cons_succ]
            refine helds_take (i := 11) (d := some 135) (v := ?vrdt2_9) (by assumption) rfl rfl (by kernel_rfl) (fun _ _ _ h => h) ?yrdt2_9 ?_; case yrdt2_9 => (refine Or.inl ⟨rfl, fun wx hS => ?_⟩; go_simp; try with_reducible rfl)
            try simp only [Act.put, List.setIfInBounds_toArray, List.set_cons_zero, List.set_cons_succ]
            refine helds_take (i := 12) (d := some 136) (v := _) (by assumption) rfl rfl (by kernel_rfl) (fun _ _ _ h => h) (yields_cell1 (fun w => by kernel_rfl) (.tmp 135) rfl rfl (fun wx hx => CB.at_ hx (i := 2) rfl) rfl) ?_
            try simp only [Act.put, List.setIfInBounds_toArray, List.set_cons_zero, List.set_cons_succ]
            refine helds_one (i := 9) rfl (by kernel_rfl) rfl (fun K hK => ?_)
            refine wp_callD (d := some 133) (f := 37) (args := #[.pointer (some ⟨m, 0, none⟩), .int .i64 oc]) rfl (by first | rfl | go_simp) ?_
            refine (muended_any _ _ _ _ _ _ MB.out.mx oc HOC.out.1).mono ?_
            rintro e wc ⟨rfl, dc⟩
            refine ⟨_, rfl, ?_⟩
            have MC := Lib.hid (MB.out.made (dc.made none))
            have hsc := MC.out.cb
            refine hK.out _ _ (by assumption) (fun _ => ?_)
            clear hK K
            try simp only [Act.put, List.setIfInBounds_toArray, List.set_cons_zero, List.set_cons_succ]
            refine helds_one (i := 13) rfl (by kernel_rfl) rfl (fun K hK => ?_)
            refine wp_callD (d := some 137) (f := 38) (args := #[.pointer (some ⟨n, 0, none⟩), .int .i64 oc]) rfl (by first | rfl | go_simp) ?_
            refine (rended_any _ _ _ _ _ _ _ MC.out.rx RLF.out oc HOC.out.1).mono ?_
            rintro e we ⟨rfl, de⟩
            refine ⟨_, rfl, ?_⟩
            have ME := Lib.hid (MC.out.made (de.made none))
            have hse := ME.out.cb
            refine hK.out _ _ (by assumption) (fun _ => ?_)
            clear hK K
            try simp only [Act.put, List.setIfInBounds_toArray, List.set_cons_zero, List.set_cons_succ]
            refine helds_take (i := 14) (d := some 138) (v := ?vrdt2_11) (by assumption) rfl rfl (by kernel_rfl) (fun _ _ _ h => h) ?yrdt2_11 ?_; case yrdt2_11 => (refine Or.inl ⟨rfl, fun wx hS => ?_⟩; go_simp; try with_reducible rfl)
            try simp only [Act.put, List.setIfInBounds_toArray, List.set_cons_zero, List.set_cons_succ]
            refine helds_take (i := 15) (d := some 139) (v := ?vrdt2_12) (by assumption) rfl rfl (by kernel_rfl) (fun _ _ _ h => h) ?yrdt2_12 ?_; case yrdt2_12 => (refine Or.inl ⟨rfl, fun wx hS => ?_⟩; go_simp; try with_reducible rfl)
            try simp only [Act.put, List.setIfInBounds_toArray, List.set_cons_zero, List.set_cons_succ]
            refine held_end (by kernel_rfl) ?_ _
            clear hsd hsa hsb hsc hse
            go_wp2
            go_roundw
            case rel => exact ⟨k + 1, _, _, _, _, _, _, by go_num, by omega, ME.out.mx, ME.out.rx, ME.out.ap, ME.out.gr, RLF.out, LMF.out, BDF.out⟩
            case measure => simp [intOf]; omega
          · refine wp_valD (d := some 113) (v := .string ⟨rdb.toArray⟩) rfl ?_ ?_
            · have k := run_strN (n := rdn) RDN.out (OwnB.rb_ P9.out)
              clear hK K
              simp [execOp, go_sem, k]
              done
            refine hK.out _ _ (by assumption) (fun _ => ?_)
            clear hK K
            try simp only [Act.put, List.setIfInBounds_toArray, List.set_cons_zero, List.set_cons_succ]
            refine helds_one (i := 6) rfl (by kernel_rfl) rfl (fun K hK => ?_)
            refine wp_valD (d := some 106) (v := .string ⟨rdb.toArray⟩) rfl ?_ ?_
            · have k := run_strN (n := rdn) RDN.out (OwnB.rb_ O9.out)
              clear hK K
              simp [execOp, go_sem, k]
              done
            refine hK.out _ _ (by assumption) (fun _ => ?_)
            clear hK K
            try simp only [Act.put, List.setIfInBounds_toArray, List.set_cons_zero, List.set_cons_succ]
            refine helds_take (i := 14) (d := some 114) (v := ?vrd_13) (by assumption) rfl rfl (by kernel_rfl) (fun _ _ _ h => h) ?yrd_13 ?_; case yrd_13 => (refine Or.inl ⟨rfl, fun wx hS => ?_⟩; go_simp; try with_reducible rfl)
            try simp only [Act.put, List.setIfInBounds_toArray, List.set_cons_zero, List.set_cons_succ]
            refine held_end (by kernel_rfl) ?_ _
            generalize (muR C oc oz).2 = CF at *
            clear hsd hs6 hs9 hxd
            go_wp2_with fail
            obtain ⟨xd, hxd⟩ : ∃ x, x9.drew = x := ⟨_, rfl⟩
            have GD := Lib.hid (show x9.grownBy xd none by rw [← hxd]; exact grown_drew (World.grownBy.refl _ none))
            have MD := Lib.hid (MF.out.made GD.out)
            have hsd := MD.out.cb
            refine helds_begin (fun x => CB x wo.heap.size 53 [.int .i64 ok, .int .i64 osd, .int .i64 oc, .int .i64 oz, .int .i64 ofc, .slice V ln cV]) (by kernel_rfl) (by rw [hxd]; exact MD.out.cb) (fun hb0 => ?_)
            try rw [hxd] at hb0
            try rw [hxd]
            refine helds_take (i := 0) (d := some 124) (v := ?vrdt3_1) (by assumption) rfl rfl (by kernel_rfl) (fun _ _ _ h => h) ?yrdt3_1 ?_; case yrdt3_1 => (refine Or.inl ⟨rfl, fun wx hS => ?_⟩; go_simp; try with_reducible rfl)
            try simp only [Act.put, List.setIfInBounds_toArray, List.set_cons_zero, List.set_cons_succ]
            refine helds_take (i := 2) (d := some 126) (v := ?vrdt3_2) (by assumption) rfl rfl (by kernel_rfl) (fun _ _ _ h => h) ?yrdt3_2 ?_; case yrdt3_2 => (refine Or.inl ⟨rfl, fun wx hS => ?_⟩; go_simp; try with_reducible rfl)
            try simp only [Act.put, List.setIfInBounds_toArray, List.set_cons_zero, List.set_cons_succ]
            refine helds_one (i := 1) rfl (by kernel_rfl) rfl (fun K hK => ?_)
            refine wp_callD (d := some 125) (f := 35) (args := #[.pointer (some ⟨m, 0, none⟩)]) rfl (by first | rfl | go_simp) ?_
            refine (muidle_any _ _ _ _ _ _ MD.out.mx).mono ?_
            rintro e wa ⟨rfl, da⟩
            refine ⟨_, rfl, ?_⟩
            have MA := Lib.hid (MD.out.made (da.made none))
            have hsa := MA.out.cb
            refine hK.out _ _ (by assumption) (fun _ => ?_)
            clear hK K
            try simp only [Act.put, List.setIfInBounds_toArray, List.set_cons_zero, List.set_cons_succ]
            refine helds_one (i := 3) rfl (by kernel_rfl) rfl (fun K hK => ?_)
            refine wp_callD (d := some 127) (f := 36) (args := #[.pointer (some ⟨n, 0, none⟩)]) rfl (by first | rfl | go_simp) ?_
            refine (ridle_any _ _ _ _ _ _ _ _ MA.out.rx RLF.out LMF.out BDF.out (by omega)).mono ?_
            rintro e wb ⟨rfl, gb⟩
            refine ⟨_, rfl, ?_⟩
            have MB := Lib.hid (MA.out.made gb)
            have hsb := MB.out.cb
            refine hK.out _ _ (by assumption) (fun _ => ?_)
            clear hK K
            try simp only [Act.put, List.setIfInBounds_toArray, List.set_cons_zero, List.set_cons_succ]
            refine helds_take (i := 4) (d := some 128) (v := ?vrdt3_3) (by assumption) rfl rfl (by kernel_rfl) (fun _ _ _ h => h) ?yrdt3_3 ?_; case yrdt3_3 => (refine Or.inl ⟨rfl, fun wx hS => ?_⟩; go_simp; try with_reducible rfl)
            try simp only [Act.put, List.setIfInBounds_toArray, List.set_cons_zero, List.set_cons_succ]
            refine helds_take (i := 5) (d := some 129) (v := ?vrdt3_4) (by assumption) rfl rfl (by kernel_rfl) (fun _ _ _ h => h) ?yrdt3_4 ?_; case yrdt3_4 => (refine Or.inl ⟨rfl, fun wx hS => ?_⟩; go_simp; try with_reducible rfl)
            try simp only [Act.put, List.setIfInBounds_toArray, List.set_cons_zero, List.set_cons_succ]
            refine helds_take (i := 6) (d := some 130) (v := ?vrdt3_5) (by assumption) rfl rfl (by kernel_rfl) (fun _ _ _ h => h) ?yrdt3_5 ?_; case yrdt3_5 => (refine Or.inl ⟨rfl, fun wx hS => ?_⟩; go_simp; try with_reducible rfl)
            try simp only [Act.put, List.setIfInBounds_toArray, List.set_cons_zero, List.set_cons_succ]
            refine helds_take (i := 7) (d := some 131) (v := ?vrdt3_6) (by assumption) rfl rfl (by kernel_rfl) (fun _ _ _ h => h) ?yrdt3_6 ?_; case yrdt3_6 => (refine Or.inl ⟨rfl, fun wx hS => ?_⟩; go_simp; try with_reducible rfl)
            try simp only [Act.put, List.setIfInBounds_toArray, List.set_cons_zero, List.set_cons_succ]
            refine helds_take (i := 8) (d := some 132) (v := _) (by assumption) rfl rfl (by kernel_rfl) (fun _ _ _ h => h) (yields_cell1 (fun w => by kernel_rfl) (.tmp 131) rfl rfl (fun wx hx => CB.at_ hx (i := 2) rfl) rfl) ?_
            try simp only [Act.put, List.setIfInBounds_toArray, List.set_cons_zero, List.set_cons_succ]
            refine helds_take (i := 10) (d := some 134) (v := ?vrdt3_8) (by assumption) rfl rfl (by kernel_rfl) (fun _ _ _ h => h) ?yrdt3_8 ?_; case yrdt3_8 => (refine Or.inl ⟨rfl, fun wx hS => ?_⟩; go_simp; try with_reducible rfl)
            try simp only [Act.put, List.setIfInBounds_toArray, List.set_cons_zero, List.set_cons_succ]
            refine helds_take (i := 11) (d := some 135) (v := ?vrdt3_9) (by assumption) rfl rfl (by kernel_rfl) (fun _ _ _ h => h) ?yrdt3_9 ?_; case yrdt3_9 => (refine Or.inl ⟨rfl, fun wx hS => ?_⟩; go_simp; try with_reducible rfl)
            try simp only [Act.put, List.setIfInBounds_toArray, List.set_cons_zero, List.set_cons_succ]
            refine helds_take (i := 12) (d := some 136) (v := _) (by assumption) rfl rfl (by kernel_rfl) (fun _ _ _ h => h) (yields_cell1 (fun w => by kernel_rfl) (.tmp 135) rfl rfl (fun wx hx => CB.at_ hx (i := 2) rfl) rfl) ?_
            try simp only [Act.put, List.setIfInBounds_toArray, List.set_cons_zero, List.set_cons_succ]
            refine helds_one (i := 9) rfl (by kernel_rfl) rfl (fun K hK => ?_)
            refine wp_callD (d := some 133) (f := 37) (args := #[.pointer (some ⟨m, 0, none⟩), .int .i64 oc]) rfl (by first | rfl | go_simp) ?_
            refine (muended_any _ _ _ _ _ _ MB.out.mx oc HOC.out.1).mono ?_
            rintro e wc ⟨rfl, dc⟩
            refine ⟨_, rfl, ?_⟩
            have MC := Lib.hid (MB.out.made (dc.made none))
            have hsc := MC.out.cb
            refine hK.out _ _ (by assumption) (fun _ => ?_)
            clear hK K
            try simp only [Act.put, List.setIfInBounds_toArray, List.set_cons_zero, List.set_cons_succ]
            refine helds_one (i := 13) rfl (by kernel_rfl) rfl (fun K hK => ?_)
            refine wp_callD (d := some 137) (f := 38) (args := #[.pointer (some ⟨n, 0, none⟩), .int .i64 oc]) rfl (by first | rfl | go_simp) ?_
            refine (rended_any _ _ _ _ _ _ _ MC.out.rx RLF.out oc HOC.out.1).mono ?_
            rintro e we ⟨rfl, de⟩
            refine ⟨_, rfl, ?_⟩
            have ME := Lib.hid (MC.out.made (de.made none))
            have hse := ME.out.cb
            refine hK.out _ _ (by assumption) (fun _ => ?_)
            clear hK K
            try simp only [Act.put, List.setIfInBounds_toArray, List.set_cons_zero, List.set_cons_succ]
            refine helds_take (i := 14) (d := some 138) (v := ?vrdt3_11) (by assumption) rfl rfl (by kernel_rfl) (fun _ _ _ h => h) ?yrdt3_11 ?_; case yrdt3_11 => (refine Or.inl ⟨rfl, fun wx hS => ?_⟩; go_simp; try with_reducible rfl)
            try simp only [Act.put, List.setIfInBounds_toArray, List.set_cons_zero, List.set_cons_succ]
            refine helds_take (i := 15) (d := some 139) (v := ?vrdt3_12) (by assumption) rfl rfl (by kernel_rfl) (fun _ _ _ h => h) ?yrdt3_12 ?_; case yrdt3_12 => (refine Or.inl ⟨rfl, fun wx hS => ?_⟩; go_simp; try with_reducible rfl)
            try simp only [Act.put, List.setIfInBounds_toArray, List.set_cons_zero, List.set_cons_succ]
            refine held_end (by kernel_rfl) ?_ _
            clear hsd hsa hsb hsc hse
            go_wp2
            go_roundw
            case rel => exact ⟨k + 1, _, _, _, _, _, _, by go_num, by omega, ME.out.mx, ME.out.rx, ME.out.ap, ME.out.gr, RLF.out, LMF.out, BDF.out⟩
            case measure => simp [intOf]; omega
      by_cases e4 : k7 = 4
      · subst e4
        go_wp2_with (first
          | (go_at_call 31
             refine (muout_any _ _ _ _ _ _ MO0.out.mx LC.out).mono ?_
             rintro e x6 ⟨A6, n6, c6, us6, vs6, rfl, hn6, o6⟩
             have M6 := Lib.hid (MO0.out.stepM o6.mx o6.mg)
             have F6 := Lib.hid o6.fi
             have N6 := Lib.hid hn6
             have HZ6 := Lib.hid (show n < (wo.alloc (.cells #[.int .i64 ok, .int .i64 osd, .int .i64 oc, .int .i64 oz, .int .i64 ofc, .slice V ln cV] 53)).heap.size from MO0.out.rx.cb.lt)
             clear o6 hn6)
          | (go_at_call 32
             refine (rout_any _ _ _ _ _ _ C (10000 * k) M6.out.rx RL0.out LC.out BD0.out (by omega)).mono ?_
             rintro e x9 ⟨A9, n9, c9, D9, rfl, hn9, z9, rl9⟩
             have e9 : n9 = n6 := hn9.symm.trans N6.out
             subst e9
             have MF := Lib.hid (M6.out.stepR z9.rx ⟨z9.md, fun z hz => .inl hz⟩)
             have F9 := Lib.hid (F6.out.mod z9.md (fun z h1 h2 e => by have := HZ6.out; omega))
             have P9 := Lib.hid z9.of.shape
             have RLF := Lib.hid rl9
             have LMF := Lib.hid LC.out.out
             have BDF := Lib.hid (show RbA (10000 * (k + 1)) D9 from fun i hi => ⟨by rw [(z9.wr i hi).1]; have := (BD0.out i hi).1; omega, by rw [(z9.wr i hi).2]; have := (BD0.out i hi).2; omega⟩)
             clear z9 rl9 hn9)
          | (go_at_call 16
             obtain ⟨A6', c6', h6, r6⟩ := F9.out.rf
             obtain ⟨A9', c9', h9, r9, -⟩ := P9.out
             rw [N6.out] at h6 h9
             injection h6 with h61 _ h63
             injection h9 with h91 _ h93
             subst h61 h63 h91 h93
             refine (same_any _ _ _ _ _ _ _ _ _ N6.out N6.out r6 r9 (Nat.le_refl _)).mono ?_
             rintro e x10 ⟨rfl, b10⟩
             have G10 := Lib.hid (none_of_below b10 (Nat.le_refl _))
             have MF := Lib.hid (MF.out.made G10.out)
             clear r6 r9 b10))
        generalize (outM 4 C).2 = CF at *
        generalize (outM 4 C).1 = Fs at *
        go_wp2_with fail
        obtain ⟨xd, hxd⟩ : ∃ x, x10.drew = x := ⟨_, rfl⟩
        have GD := Lib.hid (show x10.grownBy xd none by rw [← hxd]; exact grown_drew (World.grownBy.refl _ none))
        have MD := Lib.hid (MF.out.made GD.out)
        have hsd := MD.out.cb
        refine helds_begin (fun x => CB x wo.heap.size 53 [.int .i64 ok, .int .i64 osd, .int .i64 oc, .int .i64 oz, .int .i64 ofc, .slice V ln cV]) (by kernel_rfl) (by rw [hxd]; exact MD.out.cb) (fun hb0 => ?_)
        try rw [hxd] at hb0
        try rw [hxd]
        refine helds_take (i := 0) (d := some 124) (v := ?voat_1) (by assumption) rfl rfl (by kernel_rfl) (fun _ _ _ h => h) ?yoat_1 ?_; case yoat_1 => (refine Or.inl ⟨rfl, fun wx hS => ?_⟩; go_simp; try with_reducible rfl)
        try simp only [Act.put, List.setIfInBounds_toArray, List.set_cons_zero, List.set_cons_succ]
        refine helds_take (i := 2) (d := some 126) (v := ?voat_2) (by assumption) rfl rfl (by kernel_rfl) (fun _ _ _ h => h) ?yoat_2 ?_; case yoat_2 => (refine Or.inl ⟨rfl, fun wx hS => ?_⟩; go_simp; try with_reducible rfl)
        try simp only [Act.put, List.setIfInBounds_toArray, List.set_cons_zero, List.set_cons_succ]
        refine helds_one (i := 1) rfl (by kernel_rfl) rfl (fun K hK => ?_)
        refine wp_callD (d := some 125) (f := 35) (args := #[.pointer (some ⟨m, 0, none⟩)]) rfl (by first | rfl | go_simp) ?_
        refine (muidle_any _ _ _ _ _ _ MD.out.mx).mono ?_
        rintro e wa ⟨rfl, da⟩
        refine ⟨_, rfl, ?_⟩
        have MA := Lib.hid (MD.out.made (da.made none))
        have hsa := MA.out.cb
        refine hK.out _ _ (by assumption) (fun _ => ?_)
        clear hK K
        try simp only [Act.put, List.setIfInBounds_toArray, List.set_cons_zero, List.set_cons_succ]
        refine helds_one (i := 3) rfl (by kernel_rfl) rfl (fun K hK => ?_)
        refine wp_callD (d := some 127) (f := 36) (args := #[.pointer (some ⟨n, 0, none⟩)]) rfl (by first | rfl | go_simp) ?_
        refine (ridle_any _ _ _ _ _ _ _ _ MA.out.rx RLF.out LMF.out BDF.out (by omega)).mono ?_
        rintro e wb ⟨rfl, gb⟩
        refine ⟨_, rfl, ?_⟩
        have MB := Lib.hid (MA.out.made gb)
        have hsb := MB.out.cb
        refine hK.out _ _ (by assumption) (fun _ => ?_)
        clear hK K
        try simp only [Act.put, List.setIfInBounds_toArray, List.set_cons_zero, List.set_cons_succ]
        refine helds_take (i := 4) (d := some 128) (v := ?voat_3) (by assumption) rfl rfl (by kernel_rfl) (fun _ _ _ h => h) ?yoat_3 ?_; case yoat_3 => (refine Or.inl ⟨rfl, fun wx hS => ?_⟩; go_simp; try with_reducible rfl)
        try simp only [Act.put, List.setIfInBounds_toArray, List.set_cons_zero, List.set_cons_succ]
        refine helds_take (i := 5) (d := some 129) (v := ?voat_4) (by assumption) rfl rfl (by kernel_rfl) (fun _ _ _ h => h) ?yoat_4 ?_; case yoat_4 => (refine Or.inl ⟨rfl, fun wx hS => ?_⟩; go_simp; try with_reducible rfl)
        try simp only [Act.put, List.setIfInBounds_toArray, List.set_cons_zero, List.set_cons_succ]
        refine helds_take (i := 6) (d := some 130) (v := ?voat_5) (by assumption) rfl rfl (by kernel_rfl) (fun _ _ _ h => h) ?yoat_5 ?_; case yoat_5 => (refine Or.inl ⟨rfl, fun wx hS => ?_⟩; go_simp; try with_reducible rfl)
        try simp only [Act.put, List.setIfInBounds_toArray, List.set_cons_zero, List.set_cons_succ]
        refine helds_take (i := 7) (d := some 131) (v := ?voat_6) (by assumption) rfl rfl (by kernel_rfl) (fun _ _ _ h => h) ?yoat_6 ?_; case yoat_6 => (refine Or.inl ⟨rfl, fun wx hS => ?_⟩; go_simp; try with_reducible rfl)
        try simp only [Act.put, List.setIfInBounds_toArray, List.set_cons_zero, List.set_cons_succ]
        refine helds_take (i := 8) (d := some 132) (v := _) (by assumption) rfl rfl (by kernel_rfl) (fun _ _ _ h => h) (yields_cell1 (fun w => by kernel_rfl) (.tmp 131) rfl rfl (fun wx hx => CB.at_ hx (i := 2) rfl) rfl) ?_
        try simp only [Act.put, List.setIfInBounds_toArray, List.set_cons_zero, List.set_cons_succ]
        refine helds_take (i := 10) (d := some 134) (v := ?voat_8) (by assumption) rfl rfl (by kernel_rfl) (fun _ _ _ h => h) ?yoat_8 ?_; case yoat_8 => (refine Or.inl ⟨rfl, fun wx hS => ?_⟩; go_simp; try with_reducible rfl)
        try simp only [Act.put, List.setIfInBounds_toArray, List.set_cons_zero, List.set_cons_succ]
        refine helds_take (i := 11) (d := some 135) (v := ?voat_9) (by assumption) rfl rfl (by kernel_rfl) (fun _ _ _ h => h) ?yoat_9 ?_; case yoat_9 => (refine Or.inl ⟨rfl, fun wx hS => ?_⟩; go_simp; try with_reducible rfl)
        try simp only [Act.put, List.setIfInBounds_toArray, List.set_cons_zero, List.set_cons_succ]
        refine helds_take (i := 12) (d := some 136) (v := _) (by assumption) rfl rfl (by kernel_rfl) (fun _ _ _ h => h) (yields_cell1 (fun w => by kernel_rfl) (.tmp 135) rfl rfl (fun wx hx => CB.at_ hx (i := 2) rfl) rfl) ?_
        try simp only [Act.put, List.setIfInBounds_toArray, List.set_cons_zero, List.set_cons_succ]
        refine helds_one (i := 9) rfl (by kernel_rfl) rfl (fun K hK => ?_)
        refine wp_callD (d := some 133) (f := 37) (args := #[.pointer (some ⟨m, 0, none⟩), .int .i64 oc]) rfl (by first | rfl | go_simp) ?_
        refine (muended_any _ _ _ _ _ _ MB.out.mx oc HOC.out.1).mono ?_
        rintro e wc ⟨rfl, dc⟩
        refine ⟨_, rfl, ?_⟩
        have MC := Lib.hid (MB.out.made (dc.made none))
        have hsc := MC.out.cb
        refine hK.out _ _ (by assumption) (fun _ => ?_)
        clear hK K
        try simp only [Act.put, List.setIfInBounds_toArray, List.set_cons_zero, List.set_cons_succ]
        refine helds_one (i := 13) rfl (by kernel_rfl) rfl (fun K hK => ?_)
        refine wp_callD (d := some 137) (f := 38) (args := #[.pointer (some ⟨n, 0, none⟩), .int .i64 oc]) rfl (by first | rfl | go_simp) ?_
        refine (rended_any _ _ _ _ _ _ _ MC.out.rx RLF.out oc HOC.out.1).mono ?_
        rintro e we ⟨rfl, de⟩
        refine ⟨_, rfl, ?_⟩
        have ME := Lib.hid (MC.out.made (de.made none))
        have hse := ME.out.cb
        refine hK.out _ _ (by assumption) (fun _ => ?_)
        clear hK K
        try simp only [Act.put, List.setIfInBounds_toArray, List.set_cons_zero, List.set_cons_succ]
        refine helds_take (i := 14) (d := some 138) (v := ?voat_11) (by assumption) rfl rfl (by kernel_rfl) (fun _ _ _ h => h) ?yoat_11 ?_; case yoat_11 => (refine Or.inl ⟨rfl, fun wx hS => ?_⟩; go_simp; try with_reducible rfl)
        try simp only [Act.put, List.setIfInBounds_toArray, List.set_cons_zero, List.set_cons_succ]
        refine helds_take (i := 15) (d := some 139) (v := ?voat_12) (by assumption) rfl rfl (by kernel_rfl) (fun _ _ _ h => h) ?yoat_12 ?_; case yoat_12 => (refine Or.inl ⟨rfl, fun wx hS => ?_⟩; go_simp; try with_reducible rfl)
        try simp only [Act.put, List.setIfInBounds_toArray, List.set_cons_zero, List.set_cons_succ]
        refine held_end (by kernel_rfl) ?_ _
        clear hsd hsa hsb hsc hse
        go_wp2
        go_roundw
        case rel => exact ⟨k + 1, _, _, _, _, _, _, by go_num, by omega, ME.out.mx, ME.out.rx, ME.out.ap, ME.out.gr, RLF.out, LMF.out, BDF.out⟩
        case measure => simp [intOf]; omega
      by_cases e5 : k7 = 5
      · subst e5
        go_wp2_with (first
          | (go_at_call 31
             refine (muout_any _ _ _ _ _ _ MO0.out.mx LC.out).mono ?_
             rintro e x6 ⟨A6, n6, c6, us6, vs6, rfl, hn6, o6⟩
             have M6 := Lib.hid (MO0.out.stepM o6.mx o6.mg)
             have F6 := Lib.hid o6.fi
             have N6 := Lib.hid hn6
             have HZ6 := Lib.hid (show n < (wo.alloc (.cells #[.int .i64 ok, .int .i64 osd, .int .i64 oc, .int .i64 oz, .int .i64 ofc, .slice V ln cV] 53)).heap.size from MO0.out.rx.cb.lt)
             clear o6 hn6)
          | (go_at_call 32
             refine (rout_any _ _ _ _ _ _ C (10000 * k) M6.out.rx RL0.out LC.out BD0.out (by omega)).mono ?_
             rintro e x9 ⟨A9, n9, c9, D9, rfl, hn9, z9, rl9⟩
             have e9 : n9 = n6 := hn9.symm.trans N6.out
             subst e9
             have MF := Lib.hid (M6.out.stepR z9.rx ⟨z9.md, fun z hz => .inl hz⟩)
             have F9 := Lib.hid (F6.out.mod z9.md (fun z h1 h2 e => by have := HZ6.out; omega))
             have P9 := Lib.hid z9.of.shape
             have RLF := Lib.hid rl9
             have LMF := Lib.hid LC.out.out
             have BDF := Lib.hid (show RbA (10000 * (k + 1)) D9 from fun i hi => ⟨by rw [(z9.wr i hi).1]; have := (BD0.out i hi).1; omega, by rw [(z9.wr i hi).2]; have := (BD0.out i hi).2; omega⟩)
             clear z9 rl9 hn9)
          | (go_at_call 16
             obtain ⟨A6', c6', h6, r6⟩ := F9.out.rf
             obtain ⟨A9', c9', h9, r9, -⟩ := P9.out
             rw [N6.out] at h6 h9
             injection h6 with h61 _ h63
             injection h9 with h91 _ h93
             subst h61 h63 h91 h93
             refine (same_any _ _ _ _ _ _ _ _ _ N6.out N6.out r6 r9 (Nat.le_refl _)).mono ?_
             rintro e x10 ⟨rfl, b10⟩
             have G10 := Lib.hid (none_of_below b10 (Nat.le_refl _))
             have MF := Lib.hid (MF.out.made G10.out)
             clear r6 r9 b10))
        generalize (outM 4 C).2 = CF at *
        generalize (outM 4 C).1 = Fs at *
        go_wp2_with fail
        obtain ⟨xd, hxd⟩ : ∃ x, x10.drew = x := ⟨_, rfl⟩
        have GD := Lib.hid (show x10.grownBy xd none by rw [← hxd]; exact grown_drew (World.grownBy.refl _ none))
        have MD := Lib.hid (MF.out.made GD.out)
        have hsd := MD.out.cb
        refine helds_begin (fun x => CB x wo.heap.size 53 [.int .i64 ok, .int .i64 osd, .int .i64 oc, .int .i64 oz, .int .i64 ofc, .slice V ln cV]) (by kernel_rfl) (by rw [hxd]; exact MD.out.cb) (fun hb0 => ?_)
        try rw [hxd] at hb0
        try rw [hxd]
        refine helds_take (i := 0) (d := some 124) (v := ?vobt_1) (by assumption) rfl rfl (by kernel_rfl) (fun _ _ _ h => h) ?yobt_1 ?_; case yobt_1 => (refine Or.inl ⟨rfl, fun wx hS => ?_⟩; go_simp; try with_reducible rfl)
        try simp only [Act.put, List.setIfInBounds_toArray, List.set_cons_zero, List.set_cons_succ]
        refine helds_take (i := 2) (d := some 126) (v := ?vobt_2) (by assumption) rfl rfl (by kernel_rfl) (fun _ _ _ h => h) ?yobt_2 ?_; case yobt_2 => (refine Or.inl ⟨rfl, fun wx hS => ?_⟩; go_simp; try with_reducible rfl)
        try simp only [Act.put, List.setIfInBounds_toArray, List.set_cons_zero, List.set_cons_succ]
        refine helds_one (i := 1) rfl (by kernel_rfl) rfl (fun K hK => ?_)
        refine wp_callD (d := some 125) (f := 35) (args := #[.pointer (some ⟨m, 0, none⟩)]) rfl (by first | rfl | go_simp) ?_
        refine (muidle_any _ _ _ _ _ _ MD.out.mx).mono ?_
        rintro e wa ⟨rfl, da⟩
        refine ⟨_, rfl, ?_⟩
        have MA := Lib.hid (MD.out.made (da.made none))
        have hsa := MA.out.cb
        refine hK.out _ _ (by assumption) (fun _ => ?_)
        clear hK K
        try simp only [Act.put, List.setIfInBounds_toArray, List.set_cons_zero, List.set_cons_succ]
        refine helds_one (i := 3) rfl (by kernel_rfl) rfl (fun K hK => ?_)
        refine wp_callD (d := some 127) (f := 36) (args := #[.pointer (some ⟨n, 0, none⟩)]) rfl (by first | rfl | go_simp) ?_
        refine (ridle_any _ _ _ _ _ _ _ _ MA.out.rx RLF.out LMF.out BDF.out (by omega)).mono ?_
        rintro e wb ⟨rfl, gb⟩
        refine ⟨_, rfl, ?_⟩
        have MB := Lib.hid (MA.out.made gb)
        have hsb := MB.out.cb
        refine hK.out _ _ (by assumption) (fun _ => ?_)
        clear hK K
        try simp only [Act.put, List.setIfInBounds_toArray, List.set_cons_zero, List.set_cons_succ]
        refine helds_take (i := 4) (d := some 128) (v := ?vobt_3) (by assumption) rfl rfl (by kernel_rfl) (fun _ _ _ h => h) ?yobt_3 ?_; case yobt_3 => (refine Or.inl ⟨rfl, fun wx hS => ?_⟩; go_simp; try with_reducible rfl)
        try simp only [Act.put, List.setIfInBounds_toArray, List.set_cons_zero, List.set_cons_succ]
        refine helds_take (i := 5) (d := some 129) (v := ?vobt_4) (by assumption) rfl rfl (by kernel_rfl) (fun _ _ _ h => h) ?yobt_4 ?_; case yobt_4 => (refine Or.inl ⟨rfl, fun wx hS => ?_⟩; go_simp; try with_reducible rfl)
        try simp only [Act.put, List.setIfInBounds_toArray, List.set_cons_zero, List.set_cons_succ]
        refine helds_take (i := 6) (d := some 130) (v := ?vobt_5) (by assumption) rfl rfl (by kernel_rfl) (fun _ _ _ h => h) ?yobt_5 ?_; case yobt_5 => (refine Or.inl ⟨rfl, fun wx hS => ?_⟩; go_simp; try with_reducible rfl)
        try simp only [Act.put, List.setIfInBounds_toArray, List.set_cons_zero, List.set_cons_succ]
        refine helds_take (i := 7) (d := some 131) (v := ?vobt_6) (by assumption) rfl rfl (by kernel_rfl) (fun _ _ _ h => h) ?yobt_6 ?_; case yobt_6 => (refine Or.inl ⟨rfl, fun wx hS => ?_⟩; go_simp; try with_reducible rfl)
        try simp only [Act.put, List.setIfInBounds_toArray, List.set_cons_zero, List.set_cons_succ]
        refine helds_take (i := 8) (d := some 132) (v := _) (by assumption) rfl rfl (by kernel_rfl) (fun _ _ _ h => h) (yields_cell1 (fun w => by kernel_rfl) (.tmp 131) rfl rfl (fun wx hx => CB.at_ hx (i := 2) rfl) rfl) ?_
        try simp only [Act.put, List.setIfInBounds_toArray, List.set_cons_zero, List.set_cons_succ]
        refine helds_take (i := 10) (d := some 134) (v := ?vobt_8) (by assumption) rfl rfl (by kernel_rfl) (fun _ _ _ h => h) ?yobt_8 ?_; case yobt_8 => (refine Or.inl ⟨rfl, fun wx hS => ?_⟩; go_simp; try with_reducible rfl)
        try simp only [Act.put, List.setIfInBounds_toArray, List.set_cons_zero, List.set_cons_succ]
        refine helds_take (i := 11) (d := some 135) (v := ?vobt_9) (by assumption) rfl rfl (by kernel_rfl) (fun _ _ _ h => h) ?yobt_9 ?_; case yobt_9 => (refine Or.inl ⟨rfl, fun wx hS => ?_⟩; go_simp; try with_reducible rfl)
        try simp only [Act.put, List.setIfInBounds_toArray, List.set_cons_zero, List.set_cons_succ]
        refine helds_take (i := 12) (d := some 136) (v := _) (by assumption) rfl rfl (by kernel_rfl) (fun _ _ _ h => h) (yields_cell1 (fun w => by kernel_rfl) (.tmp 135) rfl rfl (fun wx hx => CB.at_ hx (i := 2) rfl) rfl) ?_
        try simp only [Act.put, List.setIfInBounds_toArray, List.set_cons_zero, List.set_cons_succ]
        refine helds_one (i := 9) rfl (by kernel_rfl) rfl (fun K hK => ?_)
        refine wp_callD (d := some 133) (f := 37) (args := #[.pointer (some ⟨m, 0, none⟩), .int .i64 oc]) rfl (by first | rfl | go_simp) ?_
        refine (muended_any _ _ _ _ _ _ MB.out.mx oc HOC.out.1).mono ?_
        rintro e wc ⟨rfl, dc⟩
        refine ⟨_, rfl, ?_⟩
        have MC := Lib.hid (MB.out.made (dc.made none))
        have hsc := MC.out.cb
        refine hK.out _ _ (by assumption) (fun _ => ?_)
        clear hK K
        try simp only [Act.put, List.setIfInBounds_toArray, List.set_cons_zero, List.set_cons_succ]
        refine helds_one (i := 13) rfl (by kernel_rfl) rfl (fun K hK => ?_)
        refine wp_callD (d := some 137) (f := 38) (args := #[.pointer (some ⟨n, 0, none⟩), .int .i64 oc]) rfl (by first | rfl | go_simp) ?_
        refine (rended_any _ _ _ _ _ _ _ MC.out.rx RLF.out oc HOC.out.1).mono ?_
        rintro e we ⟨rfl, de⟩
        refine ⟨_, rfl, ?_⟩
        have ME := Lib.hid (MC.out.made (de.made none))
        have hse := ME.out.cb
        refine hK.out _ _ (by assumption) (fun _ => ?_)
        clear hK K
        try simp only [Act.put, List.setIfInBounds_toArray, List.set_cons_zero, List.set_cons_succ]
        refine helds_take (i := 14) (d := some 138) (v := ?vobt_11) (by assumption) rfl rfl (by kernel_rfl) (fun _ _ _ h => h) ?yobt_11 ?_; case yobt_11 => (refine Or.inl ⟨rfl, fun wx hS => ?_⟩; go_simp; try with_reducible rfl)
        try simp only [Act.put, List.setIfInBounds_toArray, List.set_cons_zero, List.set_cons_succ]
        refine helds_take (i := 15) (d := some 139) (v := ?vobt_12) (by assumption) rfl rfl (by kernel_rfl) (fun _ _ _ h => h) ?yobt_12 ?_; case yobt_12 => (refine Or.inl ⟨rfl, fun wx hS => ?_⟩; go_simp; try with_reducible rfl)
        try simp only [Act.put, List.setIfInBounds_toArray, List.set_cons_zero, List.set_cons_succ]
        refine held_end (by kernel_rfl) ?_ _
        clear hsd hsa hsb hsc hse
        go_wp2
        go_roundw
        case rel => exact ⟨k + 1, _, _, _, _, _, _, by go_num, by omega, ME.out.mx, ME.out.rx, ME.out.ap, ME.out.gr, RLF.out, LMF.out, BDF.out⟩
        case measure => simp [intOf]; omega
      have f0 : ((k7 : Int) == 0) = false := beq_eq_false_iff_ne.2 (by omega)
      have h0 : ¬ (k7 : Int) = 0 := by omega
      have f1 : ((k7 : Int) == 1) = false := beq_eq_false_iff_ne.2 (by omega)
      have h1 : ¬ (k7 : Int) = 1 := by omega
      have f2 : ((k7 : Int) == 2) = false := beq_eq_false_iff_ne.2 (by omega)
      have h2 : ¬ (k7 : Int) = 2 := by omega
      have f3 : ((k7 : Int) == 3) = false := beq_eq_false_iff_ne.2 (by omega)
      have h3 : ¬ (k7 : Int) = 3 := by omega
      have f4 : ((k7 : Int) == 4) = false := beq_eq_false_iff_ne.2 (by omega)
      have h4 : ¬ (k7 : Int) = 4 := by omega
      have f5 : ((k7 : Int) == 5) = false := beq_eq_false_iff_ne.2 (by omega)
      have h5 : ¬ (k7 : Int) = 5 := by omega
      clear e0 e1 e2 e3 e4 e5
      go_wp2_with fail
      obtain ⟨xd, hxd⟩ : ∃ x, (wo.alloc (.cells #[.int .i64 ok, .int .i64 osd, .int .i64 oc, .int .i64 oz, .int .i64 ofc, .slice V ln cV] 53)).drew = x := ⟨_, rfl⟩
      have GD := Lib.hid (show (wo.alloc (.cells #[.int .i64 ok, .int .i64 osd, .int .i64 oc, .int .i64 oz, .int .i64 ofc, .slice V ln cV] 53)).grownBy xd none by rw [← hxd]; exact grown_drew (World.grownBy.refl _ none))
      have MD := Lib.hid (MO0.out.made GD.out)
      have hsd := MD.out.cb
      have LTM := Lib.hid (fun z (hz : mxS m us vs z) => (MD.out.mx.lt z hz).2)
      have LTR := Lib.hid (fun z (hz : rxS n us' vs' z) => (MD.out.rx.lt z hz).2)
      have HGO := Lib.hid (show wo.heap.size < xd.heap.size from MD.out.cb.lt)
      refine helds_begin (fun x => CB x wo.heap.size 53 [.int .i64 ok, .int .i64 osd, .int .i64 oc, .int .i64 oz, .int .i64 ofc, .slice V ln cV]) (by kernel_rfl) (by rw [hxd]; exact MD.out.cb) (fun hb0 => ?_)
      try rw [hxd] at hb0
      try rw [hxd]
      refine helds_take (i := 0) (d := some 29) (v := ?vtk_1) (by assumption) rfl rfl (by kernel_rfl) (fun _ _ _ h => h) ?ytk_1 ?_; case ytk_1 => (refine Or.inl ⟨rfl, fun wx hS => ?_⟩; go_simp; try with_reducible rfl)
      try simp only [Act.put, List.setIfInBounds_toArray, List.set_cons_zero, List.set_cons_succ]
      refine helds_take (i := 1) (d := some 30) (v := ?vtk_2) (by assumption) rfl rfl (by kernel_rfl) (fun _ _ _ h => h) ?ytk_2 ?_; case ytk_2 => (refine Or.inl ⟨rfl, fun wx hS => ?_⟩; go_simp; try with_reducible rfl)
      try simp only [Act.put, List.setIfInBounds_toArray, List.set_cons_zero, List.set_cons_succ]
      refine helds_take (i := 2) (d := some 31) (v := _) (by assumption) rfl rfl (by kernel_rfl) (fun _ _ _ h => h) (yields_cell1 (fun w => by kernel_rfl) (.tmp 30) rfl rfl (fun wx hx => CB.at_ hx (i := 4) rfl) rfl) ?_
      try simp only [Act.put, List.setIfInBounds_toArray, List.set_cons_zero, List.set_cons_succ]
      refine helds_take (i := 4) (d := some 33) (v := ?vtk_4) (by assumption) rfl rfl (by kernel_rfl) (fun _ _ _ h => h) ?ytk_4 ?_; case ytk_4 => (refine Or.inl ⟨rfl, fun wx hS => ?_⟩; go_simp; try with_reducible rfl)
      try simp only [Act.put, List.setIfInBounds_toArray, List.set_cons_zero, List.set_cons_succ]
      refine helds_take (i := 5) (d := some 34) (v := ?vtk_5) (by assumption) rfl rfl (by kernel_rfl) (fun _ _ _ h => h) ?ytk_5 ?_; case ytk_5 => (refine Or.inl ⟨rfl, fun wx hS => ?_⟩; go_simp; try with_reducible rfl)
      try simp only [Act.put, List.setIfInBounds_toArray, List.set_cons_zero, List.set_cons_succ]
      refine helds_take (i := 6) (d := some 35) (v := _) (by assumption) rfl rfl (by kernel_rfl) (fun _ _ _ h => h) (yields_cell1 (fun w => by kernel_rfl) (.tmp 34) rfl rfl (fun wx hx => CB.at_ hx (i := 5) rfl) rfl) ?_
      try simp only [Act.put, List.setIfInBounds_toArray, List.set_cons_zero, List.set_cons_succ]
      refine helds_two (i := 3) (j := 9) (by kernel_rfl) rfl rfl rfl rfl (fun K hK => ?_) (fun K hK => ?_)
      · refine wp_lit0D (d := some 32) (e := 5) rfl rfl Try.underlying22 byteInfo ?_
        have M3 := Lib.hid (MD.out.made (grown_alloc xd (.cells #[] 5) none))
        have R3 := Lib.hid (OwnB.new0 xd xd.heap.size 5 (Nat.le_refl xd.heap.size))
        have Z3 := Lib.hid (show xd.heap.size ≤ (xd.alloc (.cells #[] 5)).heap.size by rw [World.size_alloc]; have := (Nat.le_refl xd.heap.size); omega)
        generalize xd.alloc (.cells #[] 5) = x3 at *
        have hs3 := M3.out.cb
        refine hK.out _ _ (by assumption) (fun _ => ?_)
        clear hK K
        try simp only [Act.put, List.setIfInBounds_toArray, List.set_cons_zero, List.set_cons_succ]
        refine helds_two (i := 7) (j := 9) (by kernel_rfl) rfl rfl rfl rfl (fun K hK => ?_) (fun K hK => ?_)
        · refine wp_appB (d := some 36) byteT rfl (.tmp 32) (.tmp 35) rfl R3.out (HVR.out.below (below_rw M3.out.gr (Nat.le_refl _))) rfl (by rw [HLN.out]; rfl) (by rw [HLN.out]; simp only [List.length_nil]; omega) Z3.out ?_
          intro v6 x6 o6 g6 a6
          rw [List.nil_append] at o6
          have O7 := Lib.hid o6
          have M7 := Lib.hid (M3.out.row (Mod.of_grown g6) (fun z e => by
            have h1 := R3.out.lt z e.symm
            exact ⟨by have := MD.out.gr.size; omega, fun h => by have := LTM.out z h; omega, fun h => by have := LTR.out z h; omega, by have := HGO.out; omega⟩))
          have hs7 := M7.out.cb
          have Z7 := Lib.hid (Nat.le_trans Z3.out g6.size)
          obtain ⟨A6, c6, hv6, -, -⟩ := O7.out.shape
          rw [HLN.out] at hv6
          subst hv6
          clear o6 g6 a6
          refine hK.out _ _ (by assumption) (fun _ => ?_)
          clear hK K
          try simp only [Act.put, List.setIfInBounds_toArray, List.set_cons_zero, List.set_cons_succ]
          refine helds_take (i := 8) (d := some 37) (v := ?vtk_7) (by assumption) rfl rfl (by kernel_rfl) (fun _ _ _ h => h) ?ytk_7 ?_; case ytk_7 => (refine Or.inl ⟨rfl, fun wx hS => ?_⟩; go_simp; try with_reducible rfl)
          try simp only [Act.put, List.setIfInBounds_toArray, List.set_cons_zero, List.set_cons_succ]
          refine helds_one (i := 9) rfl (by kernel_rfl) rfl (fun K hK => ?_)
          refine wp_allocD (d := some 9) (cs := [.int .i64 0, .slice none 0 0]) rfl zeroF rfl ?_
          have M9 := Lib.hid (M7.out.made (grown_alloc x6 (.cells #[.int .i64 0, .slice none 0 0] 24) none))
          have B9 := Lib.hid (CB.new x6 24 [.int .i64 0, .slice none 0 0])
          have H9 := Lib.hid (show xd.heap.size ≤ x6.heap.size from Z7.out)
          have O7 := Lib.hid (OwnB.none_ O7.out (grown_alloc x6 (.cells #[.int .i64 0, .slice none 0 0] 24) none))
          have Z9 := Lib.hid (show xd.heap.size ≤ (x6.alloc (.cells #[.int .i64 0, .slice none 0 0] 24)).heap.size by rw [World.size_alloc]; have := Z7.out; omega)
          generalize x6.alloc (.cells #[.int .i64 0, .slice none 0 0] 24) = x9 at *
          have hs9 := M9.out.cb
          refine hK.out _ _ (by assumption) (fun _ => ?_)
          clear hK K
          try simp only [Act.put, List.setIfInBounds_toArray, List.set_cons_zero, List.set_cons_succ]
          refine helds_one (i := 10) rfl (by kernel_rfl) rfl (fun K hK => ?_)
          refine wp_storeC (d := none) (off := 0) (p := [.int .i64 ofc, .slice A6 ln c6]) aggF.hi rfl (.tmp 9) (.tmp 37) rfl (.agg #[.int .i64 ofc, .slice A6 ln c6]) rfl (fun u hu => by simp at hu; rcases hu with rfl | rfl <;> rfl) B9.out rfl (by simp) rfl rfl ?_
          intro x10 h10 g10
          have h10 : CB x10 x6.heap.size 24 [.int .i64 ofc, .slice A6 ln c6] := h10
          have F10 := Lib.hid h10
          have M10 := Lib.hid (M9.out.row (Mod.of_grown g10) (fun z e => by
            injection e with e
            have h1 := H9.out
            exact ⟨by have := MD.out.gr.size; omega, fun h => by have := LTM.out z h; omega, fun h => by have := LTR.out z h; omega, by have := HGO.out; omega⟩))
          have O10 := Lib.hid (O7.out.mod (Mod.of_grown g10) (fun g hg e => OwnB.ne_cells O7.out B9.out (by decide) (by rw [hg, ← e])))
          have Z10 := Lib.hid (Nat.le_trans Z9.out g10.size)
          have hs10 := M10.out.cb
          clear g10 h10
          refine hK.out _ _ (by assumption) (fun _ => ?_)
          clear hK K
          try simp only [Act.put]
          refine held_end (by kernel_rfl) ?_ _
          clear hs3 hs7 hs9 hs10
          go_wp2_with fail
          obtain ⟨xe, hxe⟩ : ∃ x, x10.drew = x := ⟨_, rfl⟩
          have GE := Lib.hid (show x10.grownBy xe none by rw [← hxe]; exact grown_drew (World.grownBy.refl _ none))
          have ME := Lib.hid (M10.out.made GE.out)
          have FE := Lib.hid (F10.out.kept GE.out)
          have OE := Lib.hid (OwnB.none_ O10.out GE.out)
          have hse := And.intro ME.out.cb FE.out
          refine helds_begin (fun x => CB x wo.heap.size 53 [.int .i64 ok, .int .i64 osd, .int .i64 oc, .int .i64 oz, .int .i64 ofc, .slice V ln cV] ∧ CB x x6.heap.size 24 [.int .i64 ofc, .slice A6 ln c6]) (by kernel_rfl) (by rw [hxe]; exact ⟨ME.out.cb, FE.out⟩) (fun hb0 => ?_)
          try rw [hxe] at hb0
          try rw [hxe]
          refine helds_take (i := 0) (d := some 38) (v := ?vtke1_1) (by assumption) rfl rfl (by kernel_rfl) (fun _ _ _ h => h) ?ytke1_1 ?_; case ytke1_1 => (refine Or.inl ⟨rfl, fun wx hS => ?_⟩; go_simp; try with_reducible rfl)
          try simp only [Act.put, List.setIfInBounds_toArray, List.set_cons_zero, List.set_cons_succ]
          refine helds_take (i := 1) (d := some 39) (v := _) (by assumption) rfl rfl (by kernel_rfl) (fun _ _ _ h => h) (yields_load6 (off := 0) (p := [.int .i64 ofc, .slice A6 ln c6]) aggF (.tmp 9) rfl rfl (fun _ hx => hx.2) rfl (by simp) rfl) ?_
          try simp only [Act.put, List.setIfInBounds_toArray, List.set_cons_zero, List.set_cons_succ]
          refine helds_take (i := 3) (d := some 41) (v := ?vtke1_3) (by assumption) rfl rfl (by kernel_rfl) (fun _ _ _ h => h) ?ytke1_3 ?_; case ytke1_3 => (refine Or.inl ⟨rfl, fun wx hS => ?_⟩; go_simp; try with_reducible rfl)
          try simp only [Act.put, List.setIfInBounds_toArray, List.set_cons_zero, List.set_cons_succ]
          refine helds_take (i := 4) (d := some 42) (v := ?vtke1_4) (by assumption) rfl rfl (by kernel_rfl) (fun _ _ _ h => h) ?ytke1_4 ?_; case ytke1_4 => (refine Or.inl ⟨rfl, fun wx hS => ?_⟩; go_simp; try with_reducible rfl)
          try simp only [Act.put, List.setIfInBounds_toArray, List.set_cons_zero, List.set_cons_succ]
          refine helds_take (i := 5) (d := some 43) (v := _) (by assumption) rfl rfl (by kernel_rfl) (fun _ _ _ h => h) (yields_load6 (off := 4) (p := [.int .i64 ofc, .slice V ln cV]) aggF (.tmp 42) rfl rfl (fun _ hx => hx.1) rfl (by simp) rfl) ?_
          try simp only [Act.put, List.setIfInBounds_toArray, List.set_cons_zero, List.set_cons_succ]
          refine helds_one (i := 2) rfl (by kernel_rfl) rfl (fun K hK => ?_)
          refine wp_callD (d := some 40) (f := 33) (args := #[.pointer (some ⟨m, 0, none⟩), .agg #[.int .i64 ofc, .slice A6 ln c6]]) rfl (by first | rfl | go_simp) ?_
          refine (muB ME.out.mx LC.out (ofc, ofb) HOC.out.2.2 A6 ln c6 HLN.out (OwnB.rb_ OE.out) (by omega)).mono ?_
          rintro e x11 ⟨rfl, us6, vs6, k6, g6⟩
          refine ⟨_, rfl, ?_⟩
          have M11 := Lib.hid (ME.out.stepM k6 g6)
          have B11 := Lib.hid (FE.out.mod g6.1 (ME.out.mx.ne_cells FE.out (by decide) (by decide)))
          have O11 := Lib.hid (OE.out.mod g6.1 (fun g hg hs => by have h1 := OE.out.lt g hg; have h2 := LTM.out g hs; omega))
          have NM := Lib.hid (show ∀ z, xd.heap.size ≤ z → z < xe.heap.size → ¬ mxS m us6 vs6 z from fun z h1 h2 hz => by
            rcases g6.2 z hz with e | e
            · have := LTM.out z e; omega
            · omega)
          have Z11 := Lib.hid g6.1.size
          have hs11 := And.intro M11.out.cb B11.out
          clear k6 g6
          refine hK.out _ _ (by assumption) (fun _ => ?_)
          clear hK K
          try simp only [Act.put, List.setIfInBounds_toArray, List.set_cons_zero, List.set_cons_succ]
          refine helds_one (i := 6) rfl (by kernel_rfl) rfl (fun K hK => ?_)
          refine wp_callD (d := some 44) (f := 34) (args := #[.pointer (some ⟨n, 0, none⟩), .agg #[.int .i64 ofc, .slice V ln cV]]) rfl (by first | rfl | go_simp) ?_
          refine (rtake_any _ _ _ _ _ _ C (10000 * k) M11.out.rx RL0.out LC.out BD0.out (by omega) ofc HOC.out.2.2 V ofb ln cV HLN.out ((HVR.out.below (below_rw M11.out.gr (Nat.le_refl _))).more M11.out.gr.size) (by omega)).mono ?_
          rintro e x12 ⟨rfl, us9, vs9, D9, k9, rl9, bd9, g9⟩
          refine ⟨_, rfl, ?_⟩
          have M12 := Lib.hid (M11.out.stepR k9 g9)
          have B12 := Lib.hid (B11.out.mod g9.1 (fun e => M11.out.rx.ne_cells B11.out (by decide) (by decide) (.inl e)))
          have O12 := Lib.hid (O11.out.mod g9.1 (fun g hg e => by have h1 := O11.out.lt g hg; have := LTR.out n (.inl rfl); omega))
          have RLF := Lib.hid rl9
          have LMF := Lib.hid (LC.out.muT (ofc, ofb))
          have BDF := Lib.hid (show RbA (10000 * (k + 1)) D9 from fun i hi => ⟨by have := (bd9 i hi).1; omega, by have := (bd9 i hi).2; omega⟩)
          have NR := Lib.hid (show ∀ z, xd.heap.size ≤ z → z < xe.heap.size → ¬ rxS n us9 vs9 z from fun z h1 h2 hz => by
            rcases g9.2 z hz with e | e
            · have := LTR.out z e; omega
            · have := Z11.out; omega)
          have hs12 := And.intro M12.out.cb B12.out
          clear k9 rl9 bd9 g9
          refine hK.out _ _ (by assumption) (fun _ => ?_)
          clear hK K
          try simp only [Act.put, List.setIfInBounds_toArray, List.set_cons_zero, List.set_cons_succ]
          refine helds_take (i := 7) (d := some 45) (v := ?vtke1_6) (by assumption) rfl rfl (by kernel_rfl) (fun _ _ _ h => h) ?ytke1_6 ?_; case ytke1_6 => (refine Or.inl ⟨rfl, fun wx hS => ?_⟩; go_simp; try with_reducible rfl)
          try simp only [Act.put, List.setIfInBounds_toArray, List.set_cons_zero, List.set_cons_succ]
          refine held_end (by kernel_rfl) ?_ _
          clear hs11 hs12 hse hxe
          generalize (muT C (ofc, ofb)).2 = CF at *
          generalize (muT C (ofc, ofb)).1 = en at *
          have b1 := B12.out.at_ (i := 1) rfl
          have IC := Lib.hid (own_CB' O12.out)
          have NIL := Lib.hid (show A6 = none → ln = 0 from fun e => by have h := OwnB.rb_ O12.out; rw [e] at h; have h2 := h.none_len'; have h3 := (OwnB.len_ O12.out); omega)
          have SZL := Lib.hid (show ln ≤ 9223372036854775807 by omega)
          have hszl := SZL.out
          go_wp2
          go_loopw [49] (fun s wq => ∃ j : Nat, s = .int .i64 j ∧ j ≤ ln ∧ Mod (fun z => (Value.slice A6 ln c6).ownBlock = some z) x12 wq ∧ ∀ g, (Value.slice A6 ln c6).ownBlock = some g → A6 = some ⟨g, 0, none⟩ ∧ ln ≤ c6 ∧ ∃ cs, CB wq g 5 cs ∧ cs.length = c6) (fun s _ => ln - (intOf s).toNat)
          case atStart => exact ⟨0, rfl, Nat.zero_le _, Mod.refl _ _, IC.out⟩
          case round =>
            obtain ⟨j, rfl, hj, hMj, hCj⟩ := hrel
            by_cases hjl : j < ln
            · obtain ⟨g2, hg2⟩ : ∃ g, (Value.slice A6 ln c6).ownBlock = some g := by
                cases A6 with
                | none => have := NIL.out rfl; omega
                | some a => exact ⟨a.block, rfl⟩
              obtain ⟨rfl, hlc, cs, hcs, hcl⟩ := hCj g2 hg2
              have MJ := Lib.hid hMj
              have CS := Lib.hid hcs
              have CL := Lib.hid hcl
              have hji : (j : Int) < (ln : Int) := by omega
              have hkeep := Lib.hid (show j < cs.length by rw [hcl]; omega)
              have b1 := (B12.out.mod MJ.out (fun e => OwnB.ne_cells O12.out B12.out (by decide) e)).at_ (i := 1) rfl
              clear hMj hCj hcs hcl hg2
              go_wp2_with (refine wpList_setC (off := j) sz8' rfl (.tmp 55) (.const (.int .u8 238)) rfl .u8 238 CS.out hkeep.out (by first | rfl | go_simp) rfl ?_
                           intro wy hy gy
                           have CY := Lib.hid hy
                           have GY := Lib.hid gy
                           clear hy gy)
              go_wp2
              go_roundw
              case rel => exact ⟨j + 1, by go_num, by omega, MJ.out.grown GY.out (fun z hz _ => by injection hz with hz; subst hz; rfl), fun g hg => by injection hg with hg; subst hg; exact ⟨rfl, hlc, _, CY.out, by rw [List.length_set]; exact CL.out⟩⟩
              case measure => simp [intOf]; omega
            · obtain rfl : ln = j := by omega
              have MR := Lib.hid hMj
              clear hMj hCj hjl
              clear IC NIL SZL hszl
              have MF := Lib.hid (M12.out.row MR.out (fun z hz => by
                have h1 := OE.out.lt z hz
                have h4 := HGO.out
                exact ⟨by have := MD.out.gr.size; omega, NM.out z h1.1 h1.2, NR.out z h1.1 h1.2, by omega⟩))
              go_wp2_with fail
              clear MD hxd hsd
              obtain ⟨xd, hxd⟩ : ∃ x, wr.drew = x := ⟨_, rfl⟩
              have GD := Lib.hid (show wr.grownBy xd none by rw [← hxd]; exact grown_drew (World.grownBy.refl _ none))
              have MD := Lib.hid (MF.out.made GD.out)
              have hsd := MD.out.cb
              refine helds_begin (fun x => CB x wo.heap.size 53 [.int .i64 ok, .int .i64 osd, .int .i64 oc, .int .i64 oz, .int .i64 ofc, .slice V ln cV]) (by kernel_rfl) (by rw [hxd]; exact MD.out.cb) (fun hb0 => ?_)
              try rw [hxd] at hb0
              try rw [hxd]
              refine helds_take (i := 0) (d := some 124) (v := ?vtke1t_1) (by assumption) rfl rfl (by kernel_rfl) (fun _ _ _ h => h) ?ytke1t_1 ?_; case ytke1t_1 => (refine Or.inl ⟨rfl, fun wx hS => ?_⟩; go_simp; try with_reducible rfl)
              try simp only [Act.put, List.setIfInBounds_toArray, List.set_cons_zero, List.set_cons_succ]
              refine helds_take (i := 2) (d := some 126) (v := ?vtke1t_2) (by assumption) rfl rfl (by kernel_rfl) (fun _ _ _ h => h) ?ytke1t_2 ?_; case ytke1t_2 => (refine Or.inl ⟨rfl, fun wx hS => ?_⟩; go_simp; try with_reducible rfl)
              try simp only [Act.put, List.setIfInBounds_toArray, List.set_cons_zero, List.set_cons_succ]
              refine helds_one (i := 1) rfl (by kernel_rfl) rfl (fun K hK => ?_)
              refine wp_callD (d := some 125) (f := 35) (args := #[.pointer (some ⟨m, 0, none⟩)]) rfl (by first | rfl | go_simp) ?_
              refine (muidle_any _ _ _ _ _ _ MD.out.mx).mono ?_
              rintro e wa ⟨rfl, da⟩
              refine ⟨_, rfl, ?_⟩
              have MA := Lib.hid (MD.out.made (da.made none))
              have hsa := MA.out.cb
              refine hK.out _ _ (by assumption) (fun _ => ?_)
              clear hK K
              try simp only [Act.put, List.setIfInBounds_toArray, List.set_cons_zero, List.set_cons_succ]
              refine helds_one (i := 3) rfl (by kernel_rfl) rfl (fun K hK => ?_)
              refine wp_callD (d := some 127) (f := 36) (args := #[.pointer (some ⟨n, 0, none⟩)]) rfl (by first | rfl | go_simp) ?_
              refine (ridle_any _ _ _ _ _ _ _ _ MA.out.rx RLF.out LMF.out BDF.out (by omega)).mono ?_
              rintro e wb ⟨rfl, gb⟩
              refine ⟨_, rfl, ?_⟩
              have MB := Lib.hid (MA.out.made gb)
              have hsb := MB.out.cb
              refine hK.out _ _ (by assumption) (fun _ => ?_)
              clear hK K
              try simp only [Act.put, List.setIfInBounds_toArray, List.set_cons_zero, List.set_cons_succ]
              refine helds_take (i := 4) (d := some 128) (v := ?vtke1t_3) (by assumption) rfl rfl (by kernel_rfl) (fun _ _ _ h => h) ?ytke1t_3 ?_; case ytke1t_3 => (refine Or.inl ⟨rfl, fun wx hS => ?_⟩; go_simp; try with_reducible rfl)
              try simp only [Act.put, List.setIfInBounds_toArray, List.set_cons_zero, List.set_cons_succ]
              refine helds_take (i := 5) (d := some 129) (v := ?vtke1t_4) (by assumption) rfl rfl (by kernel_rfl) (fun _ _ _ h => h) ?ytke1t_4 ?_; case ytke1t_4 => (refine Or.inl ⟨rfl, fun wx hS => ?_⟩; go_simp; try with_reducible rfl)
              try simp only [Act.put, List.setIfInBounds_toArray, List.set_cons_zero, List.set_cons_succ]
              refine helds_take (i := 6) (d := some 130) (v := ?vtke1t_5) (by assumption) rfl rfl (by kernel_rfl) (fun _ _ _ h => h) ?ytke1t_5 ?_; case ytke1t_5 => (refine Or.inl ⟨rfl, fun wx hS => ?_⟩; go_simp; try with_reducible rfl)
              try simp only [Act.put, List.setIfInBounds_toArray, List.set_cons_zero, List.set_cons_succ]
              refine helds_take (i := 7) (d := some 131) (v := ?vtke1t_6) (by assumption) rfl rfl (by kernel_rfl) (fun _ _ _ h => h) ?ytke1t_6 ?_; case ytke1t_6 => (refine Or.inl ⟨rfl, fun wx hS => ?_⟩; go_simp; try with_reducible rfl)
              try simp only [Act.put, List.setIfInBounds_toArray, List.set_cons_zero, List.set_cons_succ]
              refine helds_take (i := 8) (d := some 132) (v := _) (by assumption) rfl rfl (by kernel_rfl) (fun _ _ _ h => h) (yields_cell1 (fun w => by kernel_rfl) (.tmp 131) rfl rfl (fun wx hx => CB.at_ hx (i := 2) rfl) rfl) ?_
              try simp only [Act.put, List.setIfInBounds_toArray, List.set_cons_zero, List.set_cons_succ]
              refine helds_take (i := 10) (d := some 134) (v := ?vtke1t_8) (by assumption) rfl rfl (by kernel_rfl) (fun _ _ _ h => h) ?ytke1t_8 ?_; case ytke1t_8 => (refine Or.inl ⟨rfl, fun wx hS => ?_⟩; go_simp; try with_reducible rfl)
              try simp only [Act.put, List.setIfInBounds_toArray, List.set_cons_zero, List.set_cons_succ]
              refine helds_take (i := 11) (d := some 135) (v := ?vtke1t_9) (by assumption) rfl rfl (by kernel_rfl) (fun _ _ _ h => h) ?ytke1t_9 ?_; case ytke1t_9 => (refine Or.inl ⟨rfl, fun wx hS => ?_⟩; go_simp; try with_reducible rfl)
              try simp only [Act.put, List.setIfInBounds_toArray, List.set_cons_zero, List.set_cons_succ]
              refine helds_take (i := 12) (d := some 136) (v := _) (by assumption) rfl rfl (by kernel_rfl) (fun _ _ _ h => h) (yields_cell1 (fun w => by kernel_rfl) (.tmp 135) rfl rfl (fun wx hx => CB.at_ hx (i := 2) rfl) rfl) ?_
              try simp only [Act.put, List.setIfInBounds_toArray, List.set_cons_zero, List.set_cons_succ]
              refine helds_one (i := 9) rfl (by kernel_rfl) rfl (fun K hK => ?_)
              refine wp_callD (d := some 133) (f := 37) (args := #[.pointer (some ⟨m, 0, none⟩), .int .i64 oc]) rfl (by first | rfl | go_simp) ?_
              refine (muended_any _ _ _ _ _ _ MB.out.mx oc HOC.out.1).mono ?_
              rintro e wc ⟨rfl, dc⟩
              refine ⟨_, rfl, ?_⟩
              have MC := Lib.hid (MB.out.made (dc.made none))
              have hsc := MC.out.cb
              refine hK.out _ _ (by assumption) (fun _ => ?_)
              clear hK K
              try simp only [Act.put, List.setIfInBounds_toArray, List.set_cons_zero, List.set_cons_succ]
              refine helds_one (i := 13) rfl (by kernel_rfl) rfl (fun K hK => ?_)
              refine wp_callD (d := some 137) (f := 38) (args := #[.pointer (some ⟨n, 0, none⟩), .int .i64 oc]) rfl (by first | rfl | go_simp) ?_
              refine (rended_any _ _ _ _ _ _ _ MC.out.rx RLF.out oc HOC.out.1).mono ?_
              rintro e we ⟨rfl, de⟩
              refine ⟨_, rfl, ?_⟩
              have ME := Lib.hid (MC.out.made (de.made none))
              have hse := ME.out.cb
              refine hK.out _ _ (by assumption) (fun _ => ?_)
              clear hK K
              try simp only [Act.put, List.setIfInBounds_toArray, List.set_cons_zero, List.set_cons_succ]
              refine helds_take (i := 14) (d := some 138) (v := ?vtke1t_11) (by assumption) rfl rfl (by kernel_rfl) (fun _ _ _ h => h) ?ytke1t_11 ?_; case ytke1t_11 => (refine Or.inl ⟨rfl, fun wx hS => ?_⟩; go_simp; try with_reducible rfl)
              try simp only [Act.put, List.setIfInBounds_toArray, List.set_cons_zero, List.set_cons_succ]
              refine helds_take (i := 15) (d := some 139) (v := ?vtke1t_12) (by assumption) rfl rfl (by kernel_rfl) (fun _ _ _ h => h) ?ytke1t_12 ?_; case ytke1t_12 => (refine Or.inl ⟨rfl, fun wx hS => ?_⟩; go_simp; try with_reducible rfl)
              try simp only [Act.put, List.setIfInBounds_toArray, List.set_cons_zero, List.set_cons_succ]
              refine held_end (by kernel_rfl) ?_ _
              clear hsd hsa hsb hsc hse
              go_wp2
              go_roundw
              case rel => exact ⟨k + 1, _, _, _, _, _, _, by go_num, by omega, ME.out.mx, ME.out.rx, ME.out.ap, ME.out.gr, RLF.out, LMF.out, BDF.out⟩
              case measure => simp [intOf]; omega
        · refine wp_allocD (d := some 9) (cs := [.int .i64 0, .slice none 0 0]) rfl zeroF rfl ?_
          have M9 := Lib.hid (M3.out.made (grown_alloc x3 (.cells #[.int .i64 0, .slice none 0 0] 24) none))
          have B9 := Lib.hid (CB.new x3 24 [.int .i64 0, .slice none 0 0])
          have H9 := Lib.hid (show xd.heap.size ≤ x3.heap.size from Z3.out)
          have R3 := Lib.hid (OwnB.none_ R3.out (grown_alloc x3 (.cells #[.int .i64 0, .slice none 0 0] 24) none))
          have Z9 := Lib.hid (show xd.heap.size ≤ (x3.alloc (.cells #[.int .i64 0, .slice none 0 0] 24)).heap.size by rw [World.size_alloc]; have := Z3.out; omega)
          generalize x3.alloc (.cells #[.int .i64 0, .slice none 0 0] 24) = x9 at *
          have hs9 := M9.out.cb
          refine hK.out _ _ (by assumption) (fun _ => ?_)
          clear hK K
          try simp only [Act.put, List.setIfInBounds_toArray, List.set_cons_zero, List.set_cons_succ]
          refine helds_one (i := 7) rfl (by kernel_rfl) rfl (fun K hK => ?_)
          refine wp_appB (d := some 36) byteT rfl (.tmp 32) (.tmp 35) rfl R3.out (HVR.out.below (below_rw M9.out.gr (Nat.le_refl _))) rfl (by rw [HLN.out]; rfl) (by rw [HLN.out]; simp only [List.length_nil]; omega) Z9.out ?_
          intro v6 x6 o6 g6 a6
          rw [List.nil_append] at o6
          have O7 := Lib.hid o6
          have M7 := Lib.hid (M9.out.row (Mod.of_grown g6) (fun z e => by
            have h1 := R3.out.lt z e.symm
            exact ⟨by have := MD.out.gr.size; omega, fun h => by have := LTM.out z h; omega, fun h => by have := LTR.out z h; omega, by have := HGO.out; omega⟩))
          have hs7 := M7.out.cb
          have Z7 := Lib.hid (Nat.le_trans Z9.out g6.size)
          have B9 := Lib.hid (CB.mod B9.out (Mod.of_grown g6) (fun e => OwnB.ne_cells R3.out B9.out (by decide) e.symm))
          obtain ⟨A6, c6, hv6, -, -⟩ := O7.out.shape
          rw [HLN.out] at hv6
          subst hv6
          clear o6 g6 a6
          refine hK.out _ _ (by assumption) (fun _ => ?_)
          clear hK K
          try simp only [Act.put, List.setIfInBounds_toArray, List.set_cons_zero, List.set_cons_succ]
          refine helds_take (i := 8) (d := some 37) (v := ?vtk_8) (by assumption) rfl rfl (by kernel_rfl) (fun _ _ _ h => h) ?ytk_8 ?_; case ytk_8 => (refine Or.inl ⟨rfl, fun wx hS => ?_⟩; go_simp; try with_reducible rfl)
          try simp only [Act.put, List.setIfInBounds_toArray, List.set_cons_zero, List.set_cons_succ]
          refine helds_one (i := 10) rfl (by kernel_rfl) rfl (fun K hK => ?_)
          refine wp_storeC (d := none) (off := 0) (p := [.int .i64 ofc, .slice A6 ln c6]) aggF.hi rfl (.tmp 9) (.tmp 37) rfl (.agg #[.int .i64 ofc, .slice A6 ln c6]) rfl (fun u hu => by simp at hu; rcases hu with rfl | rfl <;> rfl) B9.out rfl (by simp) rfl rfl ?_
          intro x10 h10 g10
          have h10 : CB x10 x3.heap.size 24 [.int .i64 ofc, .slice A6 ln c6] := h10
          have F10 := Lib.hid h10
          have M10 := Lib.hid (M7.out.row (Mod.of_grown g10) (fun z e => by
            injection e with e
            have h1 := H9.out
            exact ⟨by have := MD.out.gr.size; omega, fun h => by have := LTM.out z h; omega, fun h => by have := LTR.out z h; omega, by have := HGO.out; omega⟩))
          have O10 := Lib.hid (O7.out.mod (Mod.of_grown g10) (fun g hg e => OwnB.ne_cells O7.out B9.out (by decide) (by rw [hg, ← e])))
          have Z10 := Lib.hid (Nat.le_trans Z7.out g10.size)
          have hs10 := M10.out.cb
          clear g10 h10
          refine hK.out _ _ (by assumption) (fun _ => ?_)
          clear hK K
          try simp only [Act.put]
          refine held_end (by kernel_rfl) ?_ _
          clear hs3 hs7 hs9 hs10
          go_wp2_with fail
          obtain ⟨xe, hxe⟩ : ∃ x, x10.drew = x := ⟨_, rfl⟩
          have GE := Lib.hid (show x10.grownBy xe none by rw [← hxe]; exact grown_drew (World.grownBy.refl _ none))
          have ME := Lib.hid (M10.out.made GE.out)
          have FE := Lib.hid (F10.out.kept GE.out)
          have OE := Lib.hid (OwnB.none_ O10.out GE.out)
          have hse := And.intro ME.out.cb FE.out
          refine helds_begin (fun x => CB x wo.heap.size 53 [.int .i64 ok, .int .i64 osd, .int .i64 oc, .int .i64 oz, .int .i64 ofc, .slice V ln cV] ∧ CB x x3.heap.size 24 [.int .i64 ofc, .slice A6 ln c6]) (by kernel_rfl) (by rw [hxe]; exact ⟨ME.out.cb, FE.out⟩) (fun hb0 => ?_)
          try rw [hxe] at hb0
          try rw [hxe]
          refine helds_take (i := 0) (d := some 38) (v := ?vtke2_1) (by assumption) rfl rfl (by kernel_rfl) (fun _ _ _ h => h) ?ytke2_1 ?_; case ytke2_1 => (refine Or.inl ⟨rfl, fun wx hS => ?_⟩; go_simp; try with_reducible rfl)
          try simp only [Act.put, List.setIfInBounds_toArray, List.set_cons_zero, List.set_cons_succ]
          refine helds_take (i := 1) (d := some 39) (v := _) (by assumption) rfl rfl (by kernel_rfl) (fun _ _ _ h => h) (yields_load6 (off := 0) (p := [.int .i64 ofc, .slice A6 ln c6]) aggF (.tmp 9) rfl rfl (fun _ hx => hx.2) rfl (by simp) rfl) ?_
          try simp only [Act.put, List.setIfInBounds_toArray, List.set_cons_zero, List.set_cons_succ]
          refine helds_take (i := 3) (d := some 41) (v := ?vtke2_3) (by assumption) rfl rfl (by kernel_rfl) (fun _ _ _ h => h) ?ytke2_3 ?_; case ytke2_3 => (refine Or.inl ⟨rfl, fun wx hS => ?_⟩; go_simp; try with_reducible rfl)
          try simp only [Act.put, List.setIfInBounds_toArray, List.set_cons_zero, List.set_cons_succ]
          refine helds_take (i := 4) (d := some 42) (v := ?vtke2_4) (by assumption) rfl rfl (by kernel_rfl) (fun _ _ _ h => h) ?ytke2_4 ?_; case ytke2_4 => (refine Or.inl ⟨rfl, fun wx hS => ?_⟩; go_simp; try with_reducible rfl)
          try simp only [Act.put, List.setIfInBounds_toArray, List.set_cons_zero, List.set_cons_succ]
          refine helds_take (i := 5) (d := some 43) (v := _) (by assumption) rfl rfl (by kernel_rfl) (fun _ _ _ h => h) (yields_load6 (off := 4) (p := [.int .i64 ofc, .slice V ln cV]) aggF (.tmp 42) rfl rfl (fun _ hx => hx.1) rfl (by simp) rfl) ?_
          try simp only [Act.put, List.setIfInBounds_toArray, List.set_cons_zero, List.set_cons_succ]
          refine helds_one (i := 2) rfl (by kernel_rfl) rfl (fun K hK => ?_)
          refine wp_callD (d := some 40) (f := 33) (args := #[.pointer (some ⟨m, 0, none⟩), .agg #[.int .i64 ofc, .slice A6 ln c6]]) rfl (by first | rfl | go_simp) ?_
          refine (muB ME.out.mx LC.out (ofc, ofb) HOC.out.2.2 A6 ln c6 HLN.out (OwnB.rb_ OE.out) (by omega)).mono ?_
          rintro e x11 ⟨rfl, us6, vs6, k6, g6⟩
          refine ⟨_, rfl, ?_⟩
          have M11 := Lib.hid (ME.out.stepM k6 g6)
          have B11 := Lib.hid (FE.out.mod g6.1 (ME.out.mx.ne_cells FE.out (by decide) (by decide)))
          have O11 := Lib.hid (OE.out.mod g6.1 (fun g hg hs => by have h1 := OE.out.lt g hg; have h2 := LTM.out g hs; omega))
          have NM := Lib.hid (show ∀ z, xd.heap.size ≤ z → z < xe.heap.size → ¬ mxS m us6 vs6 z from fun z h1 h2 hz => by
            rcases g6.2 z hz with e | e
            · have := LTM.out z e; omega
            · omega)
          have Z11 := Lib.hid g6.1.size
          have hs11 := And.intro M11.out.cb B11.out
          clear k6 g6
          refine hK.out _ _ (by assumption) (fun _ => ?_)
          clear hK K
          try simp only [Act.put, List.setIfInBounds_toArray, List.set_cons_zero, List.set_cons_succ]
          refine helds_one (i := 6) rfl (by kernel_rfl) rfl (fun K hK => ?_)
          refine wp_callD (d := some 44) (f := 34) (args := #[.pointer (some ⟨n, 0, none⟩), .agg #[.int .i64 ofc, .slice V ln cV]]) rfl (by first | rfl | go_simp) ?_
          refine (rtake_any _ _ _ _ _ _ C (10000 * k) M11.out.rx RL0.out LC.out BD0.out (by omega) ofc HOC.out.2.2 V ofb ln cV HLN.out ((HVR.out.below (below_rw M11.out.gr (Nat.le_refl _))).more M11.out.gr.size) (by omega)).mono ?_
          rintro e x12 ⟨rfl, us9, vs9, D9, k9, rl9, bd9, g9⟩
          refine ⟨_, rfl, ?_⟩
          have M12 := Lib.hid (M11.out.stepR k9 g9)
          have B12 := Lib.hid (B11.out.mod g9.1 (fun e => M11.out.rx.ne_cells B11.out (by decide) (by decide) (.inl e)))
          have O12 := Lib.hid (O11.out.mod g9.1 (fun g hg e => by have h1 := O11.out.lt g hg; have := LTR.out n (.inl rfl); omega))
          have RLF := Lib.hid rl9
          have LMF := Lib.hid (LC.out.muT (ofc, ofb))
          have BDF := Lib.hid (show RbA (10000 * (k + 1)) D9 from fun i hi => ⟨by have := (bd9 i hi).1; omega, by have := (bd9 i hi).2; omega⟩)
          have NR := Lib.hid (show ∀ z, xd.heap.size ≤ z → z < xe.heap.size → ¬ rxS n us9 vs9 z from fun z h1 h2 hz => by
            rcases g9.2 z hz with e | e
            · have := LTR.out z e; omega
            · have := Z11.out; omega)
          have hs12 := And.intro M12.out.cb B12.out
          clear k9 rl9 bd9 g9
          refine hK.out _ _ (by assumption) (fun _ => ?_)
          clear hK K
          try simp only [Act.put, List.setIfInBounds_toArray, List.set_cons_zero, List.set_cons_succ]
          refine helds_take (i := 7) (d := some 45) (v := ?vtke2_6) (by assumption) rfl rfl (by kernel_rfl) (fun _ _ _ h => h) ?ytke2_6 ?_; case ytke2_6 => (refine Or.inl ⟨rfl, fun wx hS => ?_⟩; go_simp; try with_reducible rfl)
          try simp only [Act.put, List.setIfInBounds_toArray, List.set_cons_zero, List.set_cons_succ]
          refine held_end (by kernel_rfl) ?_ _
          clear hs11 hs12 hse hxe
          generalize (muT C (ofc, ofb)).2 = CF at *
          generalize (muT C (ofc, ofb)).1 = en at *
          have b1 := B12.out.at_ (i := 1) rfl
          have IC := Lib.hid (own_CB' O12.out)
          have NIL := Lib.hid (show A6 = none → ln = 0 from fun e => by have h := OwnB.rb_ O12.out; rw [e] at h; have h2 := h.none_len'; have h3 := (OwnB.len_ O12.out); omega)
          have SZL := Lib.hid (show ln ≤ 9223372036854775807 by omega)
          have hszl := SZL.out
          go_wp2
          go_loopw [49] (fun s wq => ∃ j : Nat, s = .int .i64 j ∧ j ≤ ln ∧ Mod (fun z => (Value.slice A6 ln c6).ownBlock = some z) x12 wq ∧ ∀ g, (Value.slice A6 ln c6).ownBlock = some g → A6 = some ⟨g, 0, none⟩ ∧ ln ≤ c6 ∧ ∃ cs, CB wq g 5 cs ∧ cs.length = c6) (fun s _ => ln - (intOf s).toNat)
          case atStart => exact ⟨0, rfl, Nat.zero_le _, Mod.refl _ _, IC.out⟩
          case round =>
            obtain ⟨j, rfl, hj, hMj, hCj⟩ := hrel
            by_cases hjl : j < ln
            · obtain ⟨g2, hg2⟩ : ∃ g, (Value.slice A6 ln c6).ownBlock = some g := by
                cases A6 with
                | none => have := NIL.out rfl; omega
                | some a => exact ⟨a.block, rfl⟩
              obtain ⟨rfl, hlc, cs, hcs, hcl⟩ := hCj g2 hg2
              have MJ := Lib.hid hMj
              have CS := Lib.hid hcs
              have CL := Lib.hid hcl
              have hji : (j : Int) < (ln : Int) := by omega
              have hkeep := Lib.hid (show j < cs.length by rw [hcl]; omega)
              have b1 := (B12.out.mod MJ.out (fun e => OwnB.ne_cells O12.out B12.out (by decide) e)).at_ (i := 1) rfl
              clear hMj hCj hcs hcl hg2
              go_wp2_with (refine wpList_setC (off := j) sz8' rfl (.tmp 55) (.const (.int .u8 238)) rfl .u8 238 CS.out hkeep.out (by first | rfl | go_simp) rfl ?_
                           intro wy hy gy
                           have CY := Lib.hid hy
                           have GY := Lib.hid gy
                           clear hy gy)
              go_wp2
              go_roundw
              case rel => exact ⟨j + 1, by go_num, by omega, MJ.out.grown GY.out (fun z hz _ => by injection hz with hz; subst hz; rfl), fun g hg => by injection hg with hg; subst hg; exact ⟨rfl, hlc, _, CY.out, by rw [List.length_set]; exact CL.out⟩⟩
              case measure => simp [intOf]; omega
            · obtain rfl : ln = j := by omega
              have MR := Lib.hid hMj
              clear hMj hCj hjl
              clear IC NIL SZL hszl
              have MF := Lib.hid (M12.out.row MR.out (fun z hz => by
                have h1 := OE.out.lt z hz
                have h4 := HGO.out
                exact ⟨by have := MD.out.gr.size; omega, NM.out z h1.1 h1.2, NR.out z h1.1 h1.2, by omega⟩))
              go_wp2_with fail
              clear MD hxd hsd
              obtain ⟨xd, hxd⟩ : ∃ x, wr.drew = x := ⟨_, rfl⟩
              have GD := Lib.hid (show wr.grownBy xd none by rw [← hxd]; exact grown_drew (World.grownBy.refl _ none))
              have MD := Lib.hid (MF.out.made GD.out)
              have hsd := MD.out.cb
              refine helds_begin (fun x => CB x wo.heap.size 53 [.int .i64 ok, .int .i64 osd, .int .i64 oc, .int .i64 oz, .int .i64 ofc, .slice V ln cV]) (by kernel_rfl) (by rw [hxd]; exact MD.out.cb) (fun hb0 => ?_)
              try rw [hxd] at hb0
              try rw [hxd]
              refine helds_take (i := 0) (d := some 124) (v := ?vtke2t_1) (by assumption) rfl rfl (by kernel_rfl) (fun _ _ _ h => h) ?ytke2t_1 ?_; case ytke2t_1 => (refine Or.inl ⟨rfl, fun wx hS => ?_⟩; go_simp; try with_reducible rfl)
              try simp only [Act.put, List.setIfInBounds_toArray, List.set_cons_zero, List.set_cons_succ]
              refine helds_take (i := 2) (d := some 126) (v := ?vtke2t_2) (by assumption) rfl rfl (by kernel_rfl) (fun _ _ _ h => h) ?ytke2t_2 ?_; case ytke2t_2 => (refine Or.inl ⟨rfl, fun wx hS => ?_⟩; go_simp; try with_reducible rfl)
              try simp only [Act.put, List.setIfInBounds_toArray, List.set_cons_zero, List.set_cons_succ]
              refine helds_one (i := 1) rfl (by kernel_rfl) rfl (fun K hK => ?_)
              refine wp_callD (d := some 125) (f := 35) (args := #[.pointer (some ⟨m, 0, none⟩)]) rfl (by first | rfl | go_simp) ?_
              refine (muidle_any _ _ _ _ _ _ MD.out.mx).mono ?_
              rintro e wa ⟨rfl, da⟩
              refine ⟨_, rfl, ?_⟩
              have MA := Lib.hid (MD.out.made (da.made none))
              have hsa := MA.out.cb
              refine hK.out _ _ (by assumption) (fun _ => ?_)
              clear hK K
              try simp only [Act.put, List.setIfInBounds_toArray, List.set_cons_zero, List.set_cons_succ]
              refine helds_one (i := 3) rfl (by kernel_rfl) rfl (fun K hK => ?_)
              refine wp_callD (d := some 127) (f := 36) (args := #[.pointer (some ⟨n, 0, none⟩)]) rfl (by first | rfl | go_simp) ?_
              refine (ridle_any _ _ _ _ _ _ _ _ MA.out.rx RLF.out LMF.out BDF.out (by omega)).mono ?_
              rintro e wb ⟨rfl, gb⟩
              refine ⟨_, rfl, ?_⟩
              have MB := Lib.hid (MA.out.made gb)
              have hsb := MB.out.cb
              refine hK.out _ _ (by assumption) (fun _ => ?_)
              clear hK K
              try simp only [Act.put, List.setIfInBounds_toArray, List.set_cons_zero, List.set_cons_succ]
              refine helds_take (i := 4) (d := some 128) (v := ?vtke2t_3) (by assumption) rfl rfl (by kernel_rfl) (fun _ _ _ h => h) ?ytke2t_3 ?_; case ytke2t_3 => (refine Or.inl ⟨rfl, fun wx hS => ?_⟩; go_simp; try with_reducible rfl)
              try simp only [Act.put, List.setIfInBounds_toArray, List.set_cons_zero, List.set_cons_succ]
              refine helds_take (i := 5) (d := some 129) (v := ?vtke2t_4) (by assumption) rfl rfl (by kernel_rfl) (fun _ _ _ h => h) ?ytke2t_4 ?_; case ytke2t_4 => (refine Or.inl ⟨rfl, fun wx hS => ?_⟩; go_simp; try with_reducible rfl)
              try simp only [Act.put, List.setIfInBounds_toArray, List.set_cons_zero, List.set_cons_succ]
              refine helds_take (i := 6) (d := some 130) (v := ?vtke2t_5) (by assumption) rfl rfl (by kernel_rfl) (fun _ _ _ h => h) ?ytke2t_5 ?_; case ytke2t_5 => (refine Or.inl ⟨rfl, fun wx hS => ?_⟩; go_simp; try with_reducible rfl)
              try simp only [Act.put, List.setIfInBounds_toArray, List.set_cons_zero, List.set_cons_succ]
              refine helds_take (i := 7) (d := some 131) (v := ?vtke2t_6) (by assumption) rfl rfl (by kernel_rfl) (fun _ _ _ h => h) ?ytke2t_6 ?_; case ytke2t_6 => (refine Or.inl ⟨rfl, fun wx hS => ?_⟩; go_simp; try with_reducible rfl)
              try simp only [Act.put, List.setIfInBounds_toArray, List.set_cons_zero, List.set_cons_succ]
              refine helds_take (i := 8) (d := some 132) (v := _) (by assumption) rfl rfl (by kernel_rfl) (fun _ _ _ h => h) (yields_cell1 (fun w => by kernel_rfl) (.tmp 131) rfl rfl (fun wx hx => CB.at_ hx (i := 2) rfl) rfl) ?_
              try simp only [Act.put, List.setIfInBounds_toArray, List.set_cons_zero, List.set_cons_succ]
              refine helds_take (i := 10) (d := some 134) (v := ?vtke2t_8) (by assumption) rfl rfl (by kernel_rfl) (fun _ _ _ h => h) ?ytke2t_8 ?_; case ytke2t_8 => (refine Or.inl ⟨rfl, fun wx hS => ?_⟩; go_simp; try with_reducible rfl)
              try simp only [Act.put, List.setIfInBounds_toArray, List.set_cons_zero, List.set_cons_succ]
              refine helds_take (i := 11) (d := some 135) (v := ?vtke2t_9) (by assumption) rfl rfl (by kernel_rfl) (fun _ _ _ h => h) ?ytke2t_9 ?_; case ytke2t_9 => (refine Or.inl ⟨rfl, fun wx hS => ?_⟩; go_simp; try with_reducible rfl)
              try simp only [Act.put, List.setIfInBounds_toArray, List.set_cons_zero, List.set_cons_succ]
              refine helds_take (i := 12) (d := some 136) (v := _) (by assumption) rfl rfl (by kernel_rfl) (fun _ _ _ h => h) (yields_cell1 (fun w => by kernel_rfl) (.tmp 135) rfl rfl (fun wx hx => CB.at_ hx (i := 2) rfl) rfl) ?_
              try simp only [Act.put, List.setIfInBounds_toArray, List.set_cons_zero, List.set_cons_succ]
              refine helds_one (i := 9) rfl (by kernel_rfl) rfl (fun K hK => ?_)
              refine wp_callD (d := some 133) (f := 37) (args := #[.pointer (some ⟨m, 0, none⟩), .int .i64 oc]) rfl (by first | rfl | go_simp) ?_
              refine (muended_any _ _ _ _ _ _ MB.out.mx oc HOC.out.1).mono ?_
              rintro e wc ⟨rfl, dc⟩
              refine ⟨_, rfl, ?_⟩
              have MC := Lib.hid (MB.out.made (dc.made none))
              have hsc := MC.out.cb
              refine hK.out _ _ (by assumption) (fun _ => ?_)
              clear hK K
              try simp only [Act.put, List.setIfInBounds_toArray, List.set_cons_zero, List.set_cons_succ]
              refine helds_one (i := 13) rfl (by kernel_rfl) rfl (fun K hK => ?_)
              refine wp_callD (d := some 137) (f := 38) (args := #[.pointer (some ⟨n, 0, none⟩), .int .i64 oc]) rfl (by first | rfl | go_simp) ?_
              refine (rended_any _ _ _ _ _ _ _ MC.out.rx RLF.out oc HOC.out.1).mono ?_
              rintro e we ⟨rfl, de⟩
              refine ⟨_, rfl, ?_⟩
              have ME := Lib.hid (MC.out.made (de.made none))
              have hse := ME.out.cb
              refine hK.out _ _ (by assumption) (fun _ => ?_)
              clear hK K
              try simp only [Act.put, List.setIfInBounds_toArray, List.set_cons_zero, List.set_cons_succ]
              refine helds_take (i := 14) (d := some 138) (v := ?vtke2t_11) (by assumption) rfl rfl (by kernel_rfl) (fun _ _ _ h => h) ?ytke2t_11 ?_; case ytke2t_11 => (refine Or.inl ⟨rfl, fun wx hS => ?_⟩; go_simp; try with_reducible rfl)
              try simp only [Act.put, List.setIfInBounds_toArray, List.set_cons_zero, List.set_cons_succ]
              refine helds_take (i := 15) (d := some 139) (v := ?vtke2t_12) (by assumption) rfl rfl (by kernel_rfl) (fun _ _ _ h => h) ?ytke2t_12 ?_; case ytke2t_12 => (refine Or.inl ⟨rfl, fun wx hS => ?_⟩; go_simp; try with_reducible rfl)
              try simp only [Act.put, List.setIfInBounds_toArray, List.set_cons_zero, List.set_cons_succ]
              refine held_end (by kernel_rfl) ?_ _
              clear hsd hsa hsb hsc hse
              go_wp2
              go_roundw
              case rel => exact ⟨k + 1, _, _, _, _, _, _, by go_num, by omega, ME.out.mx, ME.out.rx, ME.out.ap, ME.out.gr, RLF.out, LMF.out, BDF.out⟩
              case measure => simp [intOf]; omega
      · refine wp_allocD (d := some 9) (cs := [.int .i64 0, .slice none 0 0]) rfl zeroF rfl ?_
        have M9 := Lib.hid (MD.out.made (grown_alloc xd (.cells #[.int .i64 0, .slice none 0 0] 24) none))
        have B9 := Lib.hid (CB.new xd 24 [.int .i64 0, .slice none 0 0])
        have H9 := Lib.hid (show xd.heap.size ≤ xd.heap.size from (Nat.le_refl xd.heap.size))
        have Z9 := Lib.hid (show xd.heap.size ≤ (xd.alloc (.cells #[.int .i64 0, .slice none 0 0] 24)).heap.size by rw [World.size_alloc]; have := (Nat.le_refl xd.heap.size); omega)
        generalize xd.alloc (.cells #[.int .i64 0, .slice none 0 0] 24) = x9 at *
        have hs9 := M9.out.cb
        refine hK.out _ _ (by assumption) (fun _ => ?_)
        clear hK K
        try simp only [Act.put, List.setIfInBounds_toArray, List.set_cons_zero, List.set_cons_succ]
        refine helds_one (i := 3) rfl (by kernel_rfl) rfl (fun K hK => ?_)
        refine wp_lit0D (d := some 32) (e := 5) rfl rfl Try.underlying22 byteInfo ?_
        have M3 := Lib.hid (M9.out.made (grown_alloc x9 (.cells #[] 5) none))
        have R3 := Lib.hid (OwnB.new0 x9 xd.heap.size 5 Z9.out)
        have B9 := Lib.hid (B9.out.kept (grown_alloc x9 (.cells #[] 5) none))
        have Z3 := Lib.hid (show xd.heap.size ≤ (x9.alloc (.cells #[] 5)).heap.size by rw [World.size_alloc]; have := Z9.out; omega)
        generalize x9.alloc (.cells #[] 5) = x3 at *
        have hs3 := M3.out.cb
        refine hK.out _ _ (by assumption) (fun _ => ?_)
        clear hK K
        try simp only [Act.put, List.setIfInBounds_toArray, List.set_cons_zero, List.set_cons_succ]
        refine helds_one (i := 7) rfl (by kernel_rfl) rfl (fun K hK => ?_)
        refine wp_appB (d := some 36) byteT rfl (.tmp 32) (.tmp 35) rfl R3.out (HVR.out.below (below_rw M3.out.gr (Nat.le_refl _))) rfl (by rw [HLN.out]; rfl) (by rw [HLN.out]; simp only [List.length_nil]; omega) Z3.out ?_
        intro v6 x6 o6 g6 a6
        rw [List.nil_append] at o6
        have O7 := Lib.hid o6
        have M7 := Lib.hid (M3.out.row (Mod.of_grown g6) (fun z e => by
          have h1 := R3.out.lt z e.symm
          exact ⟨by have := MD.out.gr.size; omega, fun h => by have := LTM.out z h; omega, fun h => by have := LTR.out z h; omega, by have := HGO.out; omega⟩))
        have hs7 := M7.out.cb
        have Z7 := Lib.hid (Nat.le_trans Z3.out g6.size)
        have B9 := Lib.hid (CB.mod B9.out (Mod.of_grown g6) (fun e => OwnB.ne_cells R3.out B9.out (by decide) e.symm))
        obtain ⟨A6, c6, hv6, -, -⟩ := O7.out.shape
        rw [HLN.out] at hv6
        subst hv6
        clear o6 g6 a6
        refine hK.out _ _ (by assumption) (fun _ => ?_)
        clear hK K
        try simp only [Act.put, List.setIfInBounds_toArray, List.set_cons_zero, List.set_cons_succ]
        refine helds_take (i := 8) (d := some 37) (v := ?vtk_9) (by assumption) rfl rfl (by kernel_rfl) (fun _ _ _ h => h) ?ytk_9 ?_; case ytk_9 => (refine Or.inl ⟨rfl, fun wx hS => ?_⟩; go_simp; try with_reducible rfl)
        try simp only [Act.put, List.setIfInBounds_toArray, List.set_cons_zero, List.set_cons_succ]
        refine helds_one (i := 10) rfl (by kernel_rfl) rfl (fun K hK => ?_)
        refine wp_storeC (d := none) (off := 0) (p := [.int .i64 ofc, .slice A6 ln c6]) aggF.hi rfl (.tmp 9) (.tmp 37) rfl (.agg #[.int .i64 ofc, .slice A6 ln c6]) rfl (fun u hu => by simp at hu; rcases hu with rfl | rfl <;> rfl) B9.out rfl (by simp) rfl rfl ?_
        intro x10 h10 g10
        have h10 : CB x10 xd.heap.size 24 [.int .i64 ofc, .slice A6 ln c6] := h10
        have F10 := Lib.hid h10
        have M10 := Lib.hid (M7.out.row (Mod.of_grown g10) (fun z e => by
          injection e with e
          have h1 := H9.out
          exact ⟨by have := MD.out.gr.size; omega, fun h => by have := LTM.out z h; omega, fun h => by have := LTR.out z h; omega, by have := HGO.out; omega⟩))
        have O10 := Lib.hid (O7.out.mod (Mod.of_grown g10) (fun g hg e => OwnB.ne_cells O7.out B9.out (by decide) (by rw [hg, ← e])))
        have Z10 := Lib.hid (Nat.le_trans Z7.out g10.size)
        have hs10 := M10.out.cb
        clear g10 h10
        refine hK.out _ _ (by assumption) (fun _ => ?_)
        clear hK K
        try simp only [Act.put]
        refine held_end (by kernel_rfl) ?_ _
        clear hs3 hs7 hs9 hs10
        go_wp2_with fail
        obtain ⟨xe, hxe⟩ : ∃ x, x10.drew = x := ⟨_, rfl⟩
        have GE := Lib.hid (show x10.grownBy xe none by rw [← hxe]; exact grown_drew (World.grownBy.refl _ none))
        have ME := Lib.hid (M10.out.made GE.out)
        have FE := Lib.hid (F10.out.kept GE.out)
        have OE := Lib.hid (OwnB.none_ O10.out GE.out)
        have hse := And.intro ME.out.cb FE.out
        refine helds_begin (fun x => CB x wo.heap.size 53 [.int .i64 ok, .int .i64 osd, .int .i64 oc, .int .i64 oz, .int .i64 ofc, .slice V ln cV] ∧ CB x xd.heap.size 24 [.int .i64 ofc, .slice A6 ln c6]) (by kernel_rfl) (by rw [hxe]; exact ⟨ME.out.cb, FE.out⟩) (fun hb0 => ?_)
        try rw [hxe] at hb0
        try rw [hxe]
        refine helds_take (i := 0) (d := some 38) (v := ?vtke3_1) (by assumption) rfl rfl (by kernel_rfl) (fun _ _ _ h => h) ?ytke3_1 ?_; case ytke3_1 => (refine Or.inl ⟨rfl, fun wx hS => ?_⟩; go_simp; try with_reducible rfl)
        try simp only [Act.put, List.setIfInBounds_toArray, List.set_cons_zero, List.set_cons_succ]
        refine helds_take (i := 1) (d := some 39) (v := _) (by assumption) rfl rfl (by kernel_rfl) (fun _ _ _ h => h) (yields_load6 (off := 0) (p := [.int .i64 ofc, .slice A6 ln c6]) aggF (.tmp 9) rfl rfl (fun _ hx => hx.2) rfl (by simp) rfl) ?_
        try simp only [Act.put, List.setIfInBounds_toArray, List.set_cons_zero, List.set_cons_succ]
        refine helds_take (i := 3) (d := some 41) (v := ?vtke3_3) (by assumption) rfl rfl (by kernel_rfl) (fun _ _ _ h => h) ?ytke3_3 ?_; case ytke3_3 => (refine Or.inl ⟨rfl, fun wx hS => ?_⟩; go_simp; try with_reducible rfl)
        try simp only [Act.put, List.setIfInBounds_toArray, List.set_cons_zero, List.set_cons_succ]
        refine helds_take (i := 4) (d := some 42) (v := ?vtke3_4) (by assumption) rfl rfl (by kernel_rfl) (fun _ _ _ h => h) ?ytke3_4 ?_; case ytke3_4 => (refine Or.inl ⟨rfl, fun wx hS => ?_⟩; go_simp; try with_reducible rfl)
        try simp only [Act.put, List.setIfInBounds_toArray, List.set_cons_zero, List.set_cons_succ]
        refine helds_take (i := 5) (d := some 43) (v := _) (by assumption) rfl rfl (by kernel_rfl) (fun _ _ _ h => h) (yields_load6 (off := 4) (p := [.int .i64 ofc, .slice V ln cV]) aggF (.tmp 42) rfl rfl (fun _ hx => hx.1) rfl (by simp) rfl) ?_
        try simp only [Act.put, List.setIfInBounds_toArray, List.set_cons_zero, List.set_cons_succ]
        refine helds_one (i := 2) rfl (by kernel_rfl) rfl (fun K hK => ?_)
        refine wp_callD (d := some 40) (f := 33) (args := #[.pointer (some ⟨m, 0, none⟩), .agg #[.int .i64 ofc, .slice A6 ln c6]]) rfl (by first | rfl | go_simp) ?_
        refine (muB ME.out.mx LC.out (ofc, ofb) HOC.out.2.2 A6 ln c6 HLN.out (OwnB.rb_ OE.out) (by omega)).mono ?_
        rintro e x11 ⟨rfl, us6, vs6, k6, g6⟩
        refine ⟨_, rfl, ?_⟩
        have M11 := Lib.hid (ME.out.stepM k6 g6)
        have B11 := Lib.hid (FE.out.mod g6.1 (ME.out.mx.ne_cells FE.out (by decide) (by decide)))
        have O11 := Lib.hid (OE.out.mod g6.1 (fun g hg hs => by have h1 := OE.out.lt g hg; have h2 := LTM.out g hs; omega))
        have NM := Lib.hid (show ∀ z, xd.heap.size ≤ z → z < xe.heap.size → ¬ mxS m us6 vs6 z from fun z h1 h2 hz => by
          rcases g6.2 z hz with e | e
          · have := LTM.out z e; omega
          · omega)
        have Z11 := Lib.hid g6.1.size
        have hs11 := And.intro M11.out.cb B11.out
        clear k6 g6
        refine hK.out _ _ (by assumption) (fun _ => ?_)
        clear hK K
        try simp only [Act.put, List.setIfInBounds_toArray, List.set_cons_zero, List.set_cons_succ]
        refine helds_one (i := 6) rfl (by kernel_rfl) rfl (fun K hK => ?_)
        refine wp_callD (d := some 44) (f := 34) (args := #[.pointer (some ⟨n, 0, none⟩), .agg #[.int .i64 ofc, .slice V ln cV]]) rfl (by first | rfl | go_simp) ?_
        refine (rtake_any _ _ _ _ _ _ C (10000 * k) M11.out.rx RL0.out LC.out BD0.out (by omega) ofc HOC.out.2.2 V ofb ln cV HLN.out ((HVR.out.below (below_rw M11.out.gr (Nat.le_refl _))).more M11.out.gr.size) (by omega)).mono ?_
        rintro e x12 ⟨rfl, us9, vs9, D9, k9, rl9, bd9, g9⟩
        refine ⟨_, rfl, ?_⟩
        have M12 := Lib.hid (M11.out.stepR k9 g9)
        have B12 := Lib.hid (B11.out.mod g9.1 (fun e => M11.out.rx.ne_cells B11.out (by decide) (by decide) (.inl e)))
        have O12 := Lib.hid (O11.out.mod g9.1 (fun g hg e => by have h1 := O11.out.lt g hg; have := LTR.out n (.inl rfl); omega))
        have RLF := Lib.hid rl9
        have LMF := Lib.hid (LC.out.muT (ofc, ofb))
        have BDF := Lib.hid (show RbA (10000 * (k + 1)) D9 from fun i hi => ⟨by have := (bd9 i hi).1; omega, by have := (bd9 i hi).2; omega⟩)
        have NR := Lib.hid (show ∀ z, xd.heap.size ≤ z → z < xe.heap.size → ¬ rxS n us9 vs9 z from fun z h1 h2 hz => by
          rcases g9.2 z hz with e | e
          · have := LTR.out z e; omega
          · have := Z11.out; omega)
        have hs12 := And.intro M12.out.cb B12.out
        clear k9 rl9 bd9 g9
        refine hK.out _ _ (by assumption) (fun _ => ?_)
        clear hK K
        try simp only [Act.put, List.setIfInBounds_toArray, List.set_cons_zero, List.set_cons_succ]
        refine helds_take (i := 7) (d := some 45) (v := ?vtke3_6) (by assumption) rfl rfl (by kernel_rfl) (fun _ _ _ h => h) ?ytke3_6 ?_; case ytke3_6 => (refine Or.inl ⟨rfl, fun wx hS => ?_⟩; go_simp; try with_reducible rfl)
        try simp only [Act.put, List.setIfInBounds_toArray, List.set_cons_zero, List.set_cons_succ]
        refine held_end (by kernel_rfl) ?_ _
        clear hs11 hs12 hse hxe
        generalize (muT C (ofc, ofb)).2 = CF at *
        generalize (muT C (ofc, ofb)).1 = en at *
        have b1 := B12.out.at_ (i := 1) rfl
        have IC := Lib.hid (own_CB' O12.out)
        have NIL := Lib.hid (show A6 = none → ln = 0 from fun e => by have h := OwnB.rb_ O12.out; rw [e] at h; have h2 := h.none_len'; have h3 := (OwnB.len_ O12.out); omega)
        have SZL := Lib.hid (show ln ≤ 9223372036854775807 by omega)
        have hszl := SZL.out
        go_wp2
        go_loopw [49] (fun s wq => ∃ j : Nat, s = .int .i64 j ∧ j ≤ ln ∧ Mod (fun z => (Value.slice A6 ln c6).ownBlock = some z) x12 wq ∧ ∀ g, (Value.slice A6 ln c6).ownBlock = some g → A6 = some ⟨g, 0, none⟩ ∧ ln ≤ c6 ∧ ∃ cs, CB wq g 5 cs ∧ cs.length = c6) (fun s _ => ln - (intOf s).toNat)
        case atStart => exact ⟨0, rfl, Nat.zero_le _, Mod.refl _ _, IC.out⟩
        case round =>
          obtain ⟨j, rfl, hj, hMj, hCj⟩ := hrel
          by_cases hjl : j < ln
          · obtain ⟨g2, hg2⟩ : ∃ g, (Value.slice A6 ln c6).ownBlock = some g := by
              cases A6 with
              | none => have := NIL.out rfl; omega
              | some a => exact ⟨a.block, rfl⟩
            obtain ⟨rfl, hlc, cs, hcs, hcl⟩ := hCj g2 hg2
            have MJ := Lib.hid hMj
            have CS := Lib.hid hcs
            have CL := Lib.hid hcl
            have hji : (j : Int) < (ln : Int) := by omega
            have hkeep := Lib.hid (show j < cs.length by rw [hcl]; omega)
            have b1 := (B12.out.mod MJ.out (fun e => OwnB.ne_cells O12.out B12.out (by decide) e)).at_ (i := 1) rfl
            clear hMj hCj hcs hcl hg2
            go_wp2_with (refine wpList_setC (off := j) sz8' rfl (.tmp 55) (.const (.int .u8 238)) rfl .u8 238 CS.out hkeep.out (by first | rfl | go_simp) rfl ?_
                         intro wy hy gy
                         have CY := Lib.hid hy
                         have GY := Lib.hid gy
                         clear hy gy)
            go_wp2
            go_roundw
            case rel => exact ⟨j + 1, by go_num, by omega, MJ.out.grown GY.out (fun z hz _ => by injection hz with hz; subst hz; rfl), fun g hg => by injection hg with hg; subst hg; exact ⟨rfl, hlc, _, CY.out, by rw [List.length_set]; exact CL.out⟩⟩
            case measure => simp [intOf]; omega
          · obtain rfl : ln = j := by omega
            have MR := Lib.hid hMj
            clear hMj hCj hjl
            clear IC NIL SZL hszl
            have MF := Lib.hid (M12.out.row MR.out (fun z hz => by
              have h1 := OE.out.lt z hz
              have h4 := HGO.out
              exact ⟨by have := MD.out.gr.size; omega, NM.out z h1.1 h1.2, NR.out z h1.1 h1.2, by omega⟩))
            go_wp2_with fail
            clear MD hxd hsd
            obtain ⟨xd, hxd⟩ : ∃ x, wr.drew = x := ⟨_, rfl⟩
            have GD := Lib.hid (show wr.grownBy xd none by rw [← hxd]; exact grown_drew (World.grownBy.refl _ none))
            have MD := Lib.hid (MF.out.made GD.out)
            have hsd := MD.out.cb
            refine helds_begin (fun x => CB x wo.heap.size 53 [.int .i64 ok, .int .i64 osd, .int .i64 oc, .int .i64 oz, .int .i64 ofc, .slice V ln cV]) (by kernel_rfl) (by rw [hxd]; exact MD.out.cb) (fun hb0 => ?_)
            try rw [hxd] at hb0
            try rw [hxd]
            refine helds_take (i := 0) (d := some 124) (v := ?vtke3t_1) (by assumption) rfl rfl (by kernel_rfl) (fun _ _ _ h => h) ?ytke3t_1 ?_; case ytke3t_1 => (refine Or.inl ⟨rfl, fun wx hS => ?_⟩; go_simp; try with_reducible rfl)
            try simp only [Act.put, List.setIfInBounds_toArray, List.set_cons_zero, List.set_cons_succ]
            refine helds_take (i := 2) (d := some 126) (v := ?vtke3t_2) (by assumption) rfl rfl (by kernel_rfl) (fun _ _ _ h => h) ?ytke3t_2 ?_; case ytke3t_2 => (refine Or.inl ⟨rfl, fun wx hS => ?_⟩; go_simp; try with_reducible rfl)
            try simp only [Act.put, List.setIfInBounds_toArray, List.set_cons_zero, List.set_cons_succ]
            refine helds_one (i := 1) rfl (by kernel_rfl) rfl (fun K hK => ?_)
            refine wp_callD (d := some 125) (f := 35) (args := #[.pointer (some ⟨m, 0, none⟩)]) rfl (by first | rfl | go_simp) ?_
            refine (muidle_any _ _ _ _ _ _ MD.out.mx).mono ?_
            rintro e wa ⟨rfl, da⟩
            refine ⟨_, rfl, ?_⟩
            have MA := Lib.hid (MD.out.made (da.made none))
            have hsa := MA.out.cb
            refine hK.out _ _ (by assumption) (fun _ => ?_)
            clear hK K
            try simp only [Act.put, List.setIfInBounds_toArray, List.set_cons_zero, List.set_cons_succ]
            refine helds_one (i := 3) rfl (by kernel_rfl) rfl (fun K hK => ?_)
            refine wp_callD (d := some 127) (f := 36) (args := #[.pointer (some ⟨n, 0, none⟩)]) rfl (by first | rfl | go_simp) ?_
            refine (ridle_any _ _ _ _ _ _ _ _ MA.out.rx RLF.out LMF.out BDF.out (by omega)).mono ?_
            rintro e wb ⟨rfl, gb⟩
            refine ⟨_, rfl, ?_⟩
            have MB := Lib.hid (MA.out.made gb)
            have hsb := MB.out.cb
            refine hK.out _ _ (by assumption) (fun _ => ?_)
            clear hK K
            try simp only [Act.put, List.setIfInBounds_toArray, List.set_cons_zero, List.set_cons_succ]
            refine helds_take (i := 4) (d := some 128) (v := ?vtke3t_3) (by assumption) rfl rfl (by kernel_rfl) (fun _ _ _ h => h) ?ytke3t_3 ?_; case ytke3t_3 => (refine Or.inl ⟨rfl, fun wx hS => ?_⟩; go_simp; try with_reducible rfl)
            try simp only [Act.put, List.setIfInBounds_toArray, List.set_cons_zero, List.set_cons_succ]
            refine helds_take (i := 5) (d := some 129) (v := ?vtke3t_4) (by assumption) rfl rfl (by kernel_rfl) (fun _ _ _ h => h) ?ytke3t_4 ?_; case ytke3t_4 => (refine Or.inl ⟨rfl, fun wx hS => ?_⟩; go_simp; try with_reducible rfl)
            try simp only [Act.put, List.setIfInBounds_toArray, List.set_cons_zero, List.set_cons_succ]
            refine helds_take (i := 6) (d := some 130) (v := ?vtke3t_5) (by assumption) rfl rfl (by kernel_rfl) (fun _ _ _ h => h) ?ytke3t_5 ?_; case ytke3t_5 => (refine Or.inl ⟨rfl, fun wx hS => ?_⟩; go_simp; try with_reducible rfl)
            try simp only [Act.put, List.setIfInBounds_toArray, List.set_cons_zero, List.set_cons_succ]
            refine helds_take (i := 7) (d := some 131) (v := ?vtke3t_6) (by assumption) rfl rfl (by kernel_rfl) (fun _ _ _ h => h) ?ytke3t_6 ?_; case ytke3t_6 => (refine Or.inl ⟨rfl, fun wx hS => ?_⟩; go_simp; try with_reducible rfl)
            try simp only [Act.put, List.setIfInBounds_toArray, List.set_cons_zero, List.set_cons_succ]
            refine helds_take (i := 8) (d := some 132) (v := _) (by assumption) rfl rfl (by kernel_rfl) (fun _ _ _ h => h) (yields_cell1 (fun w => by kernel_rfl) (.tmp 131) rfl rfl (fun wx hx => CB.at_ hx (i := 2) rfl) rfl) ?_
            try simp only [Act.put, List.setIfInBounds_toArray, List.set_cons_zero, List.set_cons_succ]
            refine helds_take (i := 10) (d := some 134) (v := ?vtke3t_8) (by assumption) rfl rfl (by kernel_rfl) (fun _ _ _ h => h) ?ytke3t_8 ?_; case ytke3t_8 => (refine Or.inl ⟨rfl, fun wx hS => ?_⟩; go_simp; try with_reducible rfl)
            try simp only [Act.put, List.setIfInBounds_toArray, List.set_cons_zero, List.set_cons_succ]
            refine helds_take (i := 11) (d := some 135) (v := ?vtke3t_9) (by assumption) rfl rfl (by kernel_rfl) (fun _ _ _ h => h) ?ytke3t_9 ?_; case ytke3t_9 => (refine Or.inl ⟨rfl, fun wx hS => ?_⟩; go_simp; try with_reducible rfl)
            try simp only [Act.put, List.setIfInBounds_toArray, List.set_cons_zero, List.set_cons_succ]
            refine helds_take (i := 12) (d := some 136) (v := _) (by assumption) rfl rfl (by kernel_rfl) (fun _ _ _ h => h) (yields_cell1 (fun w => by kernel_rfl) (.tmp 135) rfl rfl (fun wx hx => CB.at_ hx (i := 2) rfl) rfl) ?_
            try simp only [Act.put, List.setIfInBounds_toArray, List.set_cons_zero, List.set_cons_succ]
            refine helds_one (i := 9) rfl (by kernel_rfl) rfl (fun K hK => ?_)
            refine wp_callD (d := some 133) (f := 37) (args := #[.pointer (some ⟨m, 0, none⟩), .int .i64 oc]) rfl (by first | rfl | go_simp) ?_
            refine (muended_any _ _ _ _ _ _ MB.out.mx oc HOC.out.1).mono ?_
            rintro e wc ⟨rfl, dc⟩
            refine ⟨_, rfl, ?_⟩
            have MC := Lib.hid (MB.out.made (dc.made none))
            have hsc := MC.out.cb
            refine hK.out _ _ (by assumption) (fun _ => ?_)
            clear hK K
            try simp only [Act.put, List.setIfInBounds_toArray, List.set_cons_zero, List.set_cons_succ]
            refine helds_one (i := 13) rfl (by kernel_rfl) rfl (fun K hK => ?_)
            refine wp_callD (d := some 137) (f := 38) (args := #[.pointer (some ⟨n, 0, none⟩), .int .i64 oc]) rfl (by first | rfl | go_simp) ?_
            refine (rended_any _ _ _ _ _ _ _ MC.out.rx RLF.out oc HOC.out.1).mono ?_
            rintro e we ⟨rfl, de⟩
            refine ⟨_, rfl, ?_⟩
            have ME := Lib.hid (MC.out.made (de.made none))
            have hse := ME.out.cb
            refine hK.out _ _ (by assumption) (fun _ => ?_)
            clear hK K
            try simp only [Act.put, List.setIfInBounds_toArray, List.set_cons_zero, List.set_cons_succ]
            refine helds_take (i := 14) (d := some 138) (v := ?vtke3t_11) (by assumption) rfl rfl (by kernel_rfl) (fun _ _ _ h => h) ?ytke3t_11 ?_; case ytke3t_11 => (refine Or.inl ⟨rfl, fun wx hS => ?_⟩; go_simp; try with_reducible rfl)
            try simp only [Act.put, List.setIfInBounds_toArray, List.set_cons_zero, List.set_cons_succ]
            refine helds_take (i := 15) (d := some 139) (v := ?vtke3t_12) (by assumption) rfl rfl (by kernel_rfl) (fun _ _ _ h => h) ?ytke3t_12 ?_; case ytke3t_12 => (refine Or.inl ⟨rfl, fun wx hS => ?_⟩; go_simp; try with_reducible rfl)
            try simp only [Act.put, List.setIfInBounds_toArray, List.set_cons_zero, List.set_cons_succ]
            refine held_end (by kernel_rfl) ?_ _
            clear hsd hsa hsb hsc hse
            go_wp2
            go_roundw
            case rel => exact ⟨k + 1, _, _, _, _, _, _, by go_num, by omega, ME.out.mx, ME.out.rx, ME.out.ap, ME.out.gr, RLF.out, LMF.out, BDF.out⟩
            case measure => simp [intOf]; omega
    · go_wp2
      go_ret
      exact ⟨rfl, below_of_none hG⟩
end Go.Proofs.Ytajfaplaaafjiaa
