/- The walk of the document's Out. -/
import Derived.Test.YtajfaplaaafjiaaMxx
namespace Go.Proofs.Ytajfaplaaafjiaa
open Go.RowKit

def rcSent (r : Rc) (k : Nat) : Rc := { r with sent := k }
def rcSend (r : Rc) (k : Nat) : Rc := { r with sent := r.sent + k, cr := r.cr - k }
def rcTold (r : Rc) : Rc := { r with tl := true }
def rcSaid (r : Rc) : Rc := { r with sd := r.rd }
theorem Rl.send {c : Ch} {r : Rc} (h : Rl c r) {k : Nat} (h1 : k ≤ c.waits.length) (_ : k ≤ c.credit) : Rl (chSend c k) (rcSend r k) := by
  have hw := h.wait
  have hs := h.sl
  exact ⟨by show c.waits.drop k = r.wr.drop (r.sent + k); rw [h.ws, List.drop_drop], by show r.sent + k ≤ r.wr.length; omega, by show c.credit - k = r.cr - k; rw [h.cr], h.cl, h.tl, h.cm, h.rl, h.rd, h.en⟩
theorem Rl.told {c : Ch} {r : Rc} (h : Rl c r) : Rl (chTold c) (rcTold r) := ⟨h.ws, h.sl, h.cr, h.cl, rfl, h.cm, h.rl, h.rd, h.en⟩
theorem Rl.said {c : Ch} {r : Rc} (h : Rl c r) : Rl (chGrant c) (rcSaid r) := ⟨h.ws, h.sl, h.cr, h.cl, h.tl, h.cm, h.rl, Nat.zero_add _, h.en⟩
/-- The document's Mux while it lets frames go, and the frames. -/
structure RZ (w wr : World) (base n : Nat) (us vs : Nat → Value) (D0 D : Nat → Rc) (v : Value) (fs : List Fr) : Prop where
  rx : RX wr base n us vs D
  of : OwnF wr w.heap.size (fun _ => True) v fs
  md : Mod (fun z => z = n) w wr
  nl : n < w.heap.size
  wr : ∀ i, i < 4 → (D i).wr = (D0 i).wr ∧ (D i).cm = (D0 i).cm
section
variable {w wr w1 : World} {base n i : Nat} {us vs : Nat → Value} {D0 D : Nat → Rc} {v x : Value} {fs gs : List Fr} {B B' c : Nat} {A : Option Addr} {l : List UInt8}
theorem RZ.made (h : RZ w wr base n us vs D0 D v fs) (g : wr.grownBy w1 none) : RZ w w1 base n us vs D0 D v fs := ⟨h.rx.made g, h.of.none_ g, h.md.grown g (fun z hz => by cases hz), h.nl, h.wr⟩
theorem RZ.put (h : RZ w wr base n us vs D0 D v fs) (hi : i < 4) (k : Nat) (x : Value) (r' : Rc) (hk : k < 9) (hc : (rfC (us i) (vs i) (D i)).set k x = rfC (us i) (vs i) r') (h1 : r'.wr = (D i).wr) (h2 : r'.cm = (D i).cm) :
    RZ w (wr.setCell ⟨n, i * 9 + k, none⟩ x) base n us vs D0 (upd D i r') v fs := by
  have hg := grownC_set wr n (i * 9 + k) x
  refine ⟨h.rx.put hi k x r' hk hc h1 h2, h.of.mod (Mod.of_grown hg) (fun g hg e => h.of.ne_cells h.rx.cb (by decide) (by rw [hg, ← e])) (fun g _ hb _ e => by injection e with e; have := h.nl; omega), h.md.grown hg (fun z hz _ => by injection hz with hz; exact hz.symm), h.nl, fun j hj => ?_⟩
  by_cases e : j = i
  · subst e; rw [upd_same, h1, h2]; exact h.wr j hj
  · rw [upd_ne _ _ _ e]; exact h.wr j hj
theorem RZ.app (h : RZ w wr base n us vs D0 D v fs) (g : wr.grownBy w1 v.ownBlock) (o : OwnF w1 w.heap.size (fun _ => True) x gs) : RZ w w1 base n us vs D0 D x gs := by
  refine ⟨h.rx.mod (Mod.of_grown g) (fun z hz e => ?_), o, h.md.grown g (fun z hz hlt => by have := (h.of.lt z hz).1; omega), h.nl, h.wr⟩
  rcases hz with rfl | ⟨j, hj, hz | hz⟩
  · exact h.of.ne_cells h.rx.cb (by decide) e.symm
  · exact h.of.ne_own (h.rx.ou j hj) hz e.symm
  · exact h.of.ne_own (h.rx.ov j hj) hz e.symm
theorem RB.less {wr : World} (h : RB wr B A l c) (hb : ∀ a, A = some a → a.block < B') : RB wr B' A l c :=
  ⟨h.1, h.2.1, h.2.2.imp id fun ⟨a, hA, hc⟩ => ⟨a, hA, fun k u hu => ⟨hb a hA, (hc k u hu).2⟩⟩⟩
end

def RInRel (w : World) (base n : Nat) (us vs : Nat → Value) (D0 : Nat → Rc) (DC : Nat → Ch) (F : List Fr) (k : Nat) (s3 : Value) (wq : World) : Prop :=
  ∃ (f : Nat) (D : Nat → Rc) (cur : Ch) (done : List (List UInt8)) (A : Option Addr) (m c : Nat), s3 = .slice A m c ∧ RZ w wq base n us vs D0 D (.slice A m c) (F ++ done.map (fun b => ((k : Int), b))) ∧
    (F ++ done.map (fun b => ((k : Int), b))).length = m ∧ RlA (upd DC k cur) D ∧ cur.credit ≤ f ∧ Lim cur ∧ done ++ (sendsF f cur).1 = (sends (DC k)).1 ∧ (sendsF f cur).2 = (sends (DC k)).2 ∧ m + f ≤ 1026 * k + 1024
def ROutRel (w : World) (base n : Nat) (us vs : Nat → Value) (D0 : Nat → Rc) (C : Nat → Ch) (s3 s4 : Value) (wr : World) : Prop :=
  ∃ (k : Nat) (D : Nat → Rc) (A : Option Addr) (m c : Nat), s3 = .slice A m c ∧ s4 = .int .i64 k ∧ k ≤ 4 ∧ (outM k C).1.length = m ∧ RZ w wr base n us vs D0 D (.slice A m c) (outM k C).1 ∧ RlA (outM k C).2 D

set_option maxRecDepth 10000 in
set_option maxHeartbeats 16000000 in
theorem rout_any (w : World) (base n : Nat) (us vs : Nat → Value) (D0 : Nat → Rc) (C : Nat → Ch) (B : Nat) (h : RX w base n us vs D0) (hr : RlA C D0) (hl : LimA C) (hB : RbA B D0) (hBl : B ≤ 10000000) :
    Calls Try.prog 32 #[.pointer (some ⟨n, 0, none⟩)] w fun e w' => ∃ A m c D, e = .returned (.slice A m c) ∧ (outM 4 C).1.length = m ∧ RZ w w' base n us vs D0 D (.slice A m c) (outM 4 C).1 ∧ RlA (outM 4 C).2 D := by
  have HL := Lib.hid hl
  have HB0 := Lib.hid hB
  have HX0 := Lib.hid h
  have S0 := Lib.hid (show ROutRel w base n us vs D0 C (.slice (some ⟨w.heap.size, 0, none⟩) 0 0) (.int .i64 0) (w.alloc (.cells #[] 24)) from
    ⟨0, D0, _, 0, 0, rfl, rfl, by omega, rfl, ⟨h.made (grown_alloc _ _ _), OwnF.new0 w w.heap.size _ (Nat.le_refl _), Mod.made (grown_alloc _ _ _), h.cb.lt, fun _ _ => ⟨rfl, rfl⟩⟩, hr⟩)
  clear h hr hl hB
  go_enter Try.func32, Try.ntmps32
  go_wp2
  go_loopw [3, 4] (fun s3 s4 wr => ROutRel w base n us vs D0 C s3 s4 wr) (fun _ s4 _ => 4 - (intOf s4).toNat)
  case atStart => exact S0.out
  case round =>
    obtain ⟨k, D1, A, m, c, rfl, rfl, hk, hm, hi, hrl⟩ := hrel
    obtain ⟨wo, hwo⟩ : ∃ wo, wo = wr := ⟨_, rfl⟩
    subst hwo
    by_cases hlt : k < 4
    · have hki : (k : Int) < 4 := by omega
      have HLT := Lib.hid hlt
      have LB := Lib.hid (outM_len HL.out k hk)
      have LK := Lib.hid (Lim.outM_ HL.out k hk k hlt)
      have EQ := Lib.hid (show outM (k + 1) C = ((outM k C).1 ++ (outC k ((outM k C).2 k)).1, upd (outM k C).2 k (outC k ((outM k C).2 k)).2) from rfl)
      generalize (outM k C).2 = DC at *
      generalize (outM k C).1 = F at *
      have S1 := Lib.hid (show RInRel w base n us vs D0 DC F k (.slice A m c) wo from ⟨(DC k).credit, D1, DC k, [], A, m, c, rfl, by simpa using hi, by simpa using hm, by rw [upd_self]; exact hrl, Nat.le_refl _, LK.out, by rw [List.nil_append]; rfl, rfl, by have := LB.out; have := LK.out.cr; omega⟩)
      clear hi hm hrl
      go_wp2
      go_loopw [3] (fun s3 wq => RInRel w base n us vs D0 DC F k s3 wq) (fun s3 _ => 5000 - lenV s3)
      case atStart => exact S1.out
      case round =>
        obtain ⟨f, D, cur, done, A1, m1, c1', rfl, hi, hm1, hrl, hcf, hlim, hd1, hd2, hb⟩ := hrel
        obtain ⟨wq, hwq⟩ : ∃ wq, wq = wr := ⟨_, rfl⟩
        subst hwq
        have hrk := hrl k hlt
        rw [upd_same] at hrk
        obtain ⟨U, cu, hu, hUr, -⟩ := (hi.rx.ou k hlt).shape
        have hub : ∀ a, U = some a → a.block < w.heap.size := fun a e => by
          have := ((HX0.out.ou k hlt).lt a.block (by rw [hu, e]; rfl)).2
          exact this
        have HUR := Lib.hid (hUr.less hub)
        have c0 := hi.rx.at_ hlt (k := 0) rfl
        have c1 := hi.rx.at_ hlt (k := 1) rfl
        have c7 := hi.rx.at_ hlt (k := 7) rfl
        rw [Nat.add_zero] at c0
        rw [hu] at c0
        have hwt := hrk.wait
        have hsl := hrk.sl
        have hBj : (D k).wr.length ≤ B := by rw [(hi.wr k hlt).1]; exact (HB0.out k hlt).1
        have RLC := Lib.hid hrk
        have CUC0 := hrk.cr
        have hcr1 := hlim.cr
        have HWS := Lib.hid (show cur.waits = (D k).wr.drop (D k).sent from hrk.ws)
        obtain ⟨wl, hwl⟩ : ∃ x, (D k).wr.length = x := ⟨_, rfl⟩
        obtain ⟨st, hst⟩ : ∃ x, (D k).sent = x := ⟨_, rfl⟩
        obtain ⟨cr, hcr⟩ : ∃ x, (D k).cr = x := ⟨_, rfl⟩
        rw [hwl] at c0 hwt hsl hBj
        rw [hst] at c1 hwt hsl
        rw [hcr] at c7 CUC0
        rw [CUC0] at hcr1
        have WLE := Lib.hid hwl
        have STE := Lib.hid hst
        have CRE := Lib.hid hcr
        have CUC := Lib.hid CUC0
        have HWL := Lib.hid hwt
        have HI := Lib.hid hi
        have HM1 := Lib.hid hm1
        have HRL := Lib.hid hrl
        have CF := Lib.hid hcf
        have LI := Lib.hid hlim
        have HB := Lib.hid (show m1 + f ≤ 1026 * k + 1024 ∧ k ≤ 3 by omega)
        have HSO := Lib.hid hi.md.size
        by_cases hm : mayS cur = true
        · obtain ⟨hp1, hp2⟩ := (mayS_iff cur).1 hm
          obtain ⟨f', rfl⟩ : ∃ f', f = f' + 1 := ⟨f - 1, by omega⟩
          rw [sendsF_yes hm f'] at hd1 hd2
          have D1 := Lib.hid hd1
          have D2 := Lib.hid hd2
          have hsk : sendK cur = min (min cr 512) (wl - st) := by unfold sendK; rw [CUC0, hwt]
          rw [hwt] at hp1
          rw [CUC0] at hp2
          have d1 : decide (st < wl) = true := decide_eq_true (by omega)
          have d2 : decide (0 < cr) = true := decide_eq_true (by omega)
          have d2i : (0 : Int) < (cr : Int) := by omega
          have hw1 : IntKind.i64.wrap ((wl : Int) - (st : Int)) = ((wl - st : Nat) : Int) := by simp [IntKind.wrap, IntKind.bits, IntKind.signed]; omega
          clear hi hm1 hrl hcf hlim hd1 hd2 hb hm hrk hu hUr hub hwl hst hcr CUC0 hwt
          obtain ⟨q, hq⟩ : ∃ x, wl - st = x := ⟨_, rfl⟩
          rw [hq] at hw1 hsk hp1 HWL
          have HQ := Lib.hid (show wl - st = q ∧ st ≤ wl from ⟨hq, hsl⟩)
          clear hq hsl
          by_cases hA : cr < q
          · have hAi : (cr : Int) < (q : Int) := by omega
            by_cases hC : 512 < cr
            · have hCi : (512 : Int) < (cr : Int) := by omega
              have HSK := Lib.hid (show sendK cur = 512 by omega)
              have hqq := HQ.out
              have HWK := Lib.hid (show IntKind.i64.wrap ((st : Int) + 512) = ((st + 512 : Nat) : Int) by simp [IntKind.wrap, IntKind.bits, IntKind.signed]; omega)
              have HWC := Lib.hid (show IntKind.i64.wrap ((cr : Int) - 512) = ((cr - 512 : Nat) : Int) by first | (simp [IntKind.wrap, IntKind.bits, IntKind.signed]; done) | (simp [IntKind.wrap, IntKind.bits, IntKind.signed]; omega))
              have hwk := HWK.out
              have hwc := HWC.out
              obtain ⟨U', hU'⟩ : ∃ x, (if cu = st then U else U.map (·.add st)) = x := ⟨_, rfl⟩
              obtain ⟨body, hbody⟩ : ∃ x, cur.waits.take 512 = x := ⟨_, rfl⟩
              have RBK := Lib.hid (show RB wq w.heap.size U' body (cu - st) by
                have := (HUR.out.cut (k := st) (by rw [WLE.out]; omega)).head 512
                have hws2 : cur.waits = (D k).wr.drop st := by rw [HWS.out, STE.out]
                rwa [hU', ← hws2, hbody] at this)
              have KL := Lib.hid (show body.length = 512 by rw [← hbody, List.length_take, HWL.out]; omega)
              have KB := Lib.hid (show 512 ≤ 512 ∧ 512 ≤ cr ∧ st + 512 ≤ wl by omega)
              have HBO := Lib.hid hbody
              have HSL := Lib.hid (fun wx => show (Instr.sliceAt 22 (.slice U wl cu) (some (.int .i64 (st : Int))) (some (.int .i64 ((st + 512 : Nat) : Int))) none).run Try.prog wx = .ok (.slice U' 512 (cu - st)) wx by
                have e := run_cutB (l := st) (h := st + 512) (len := wl) (cap := cu) (a := U) rfl rfl (by omega) (by have := HUR.out.1; rw [WLE.out] at this; omega) wx
                rw [hU', show st + 512 - st = 512 by omega] at e
                exact e)
              have RL2 := Lib.hid (show Rl (chSend cur 512) (rcSend (D k) 512) from RLC.out.send (by rw [HWL.out]; omega) (by rw [CUC.out]; omega))
              have FNXT := Lib.hid (show (chSend cur 512).credit ≤ f' by have := CF.out; simp only [chSend]; rw [CUC.out] at this ⊢; omega)
              rw [HSK.out] at D1 D2
              clear hU' hbody hsk hqq hp1 hp2 hBj
              go_wp2
              go_quiet (fail)
              have GN := Lib.hid (show wq.grownBy (wq.drewN nq) none from ⟨rfl, rfl, rfl, Nat.le_refl _, fun _ _ _ => rfl⟩)
              have c0 : (wq.drewN nq).cell? ⟨n, k * 9, none⟩ = some (.slice U wl cu) := c0
              have c1 : (wq.drewN nq).cell? ⟨n, k * 9 + 1, none⟩ = some (.int .i64 st) := c1
              have c7 : (wq.drewN nq).cell? ⟨n, k * 9 + 7, none⟩ = some (.int .i64 cr) := c7
              have HI := Lib.hid (HI.out.made GN.out)
              have RBK := Lib.hid (RBK.out.below (below_rw GN.out HSO.out))
              have HSO := Lib.hid (Nat.le_trans HSO.out GN.out.size)
              clear GN
              generalize wq.drewN nq = wy at *
              go_wp2
              go_quiet (fail)
              have GN := Lib.hid (show wy.grownBy (wy.drewN nq) none from ⟨rfl, rfl, rfl, Nat.le_refl _, fun _ _ _ => rfl⟩)
              have c0 : (wy.drewN nq).cell? ⟨n, k * 9, none⟩ = some (.slice U wl cu) := c0
              have c1 : (wy.drewN nq).cell? ⟨n, k * 9 + 1, none⟩ = some (.int .i64 st) := c1
              have c7 : (wy.drewN nq).cell? ⟨n, k * 9 + 7, none⟩ = some (.int .i64 cr) := c7
              have HI := Lib.hid (HI.out.made GN.out)
              have RBK := Lib.hid (RBK.out.below (below_rw GN.out HSO.out))
              have HSO := Lib.hid (Nat.le_trans HSO.out GN.out.size)
              clear GN
              generalize wy.drewN nq = wz at *
              go_wp2_with fail
              have HNL := Lib.hid (show n < w.heap.size from HI.out.nl)
              obtain ⟨wd, hwd⟩ : ∃ x, wz.drew = x := ⟨_, rfl⟩
              have WD := Lib.hid (show Below w.heap.size wz wd by rw [← hwd]; exact ⟨rfl, rfl, rfl, Nat.le_refl _, fun _ _ => rfl⟩)
              have SZ := Lib.hid (show w.heap.size ≤ wd.heap.size by rw [← hwd]; exact HSO.out)
              refine helds_begin (fun x => Below w.heap.size wz x) (by kernel_rfl) (by rw [hwd]; exact WD.out) (fun hb0 => ?_)
              try rw [hwd] at hb0
              try rw [hwd]
              refine helds_take (i := 0) (d := some 57) (v := ?vya_1) (by assumption) rfl rfl (by kernel_rfl) (fun _ _ _ h => h) ?yya_1 ?_; case yya_1 => (refine Or.inl ⟨rfl, fun wx hS => ?_⟩; go_simp; try with_reducible rfl)
              try simp only [Act.put, List.setIfInBounds_toArray, List.set_cons_zero, List.set_cons_succ]
              refine helds_take (i := 1) (d := some 58) (v := ?vya_2) (by assumption) rfl rfl (by kernel_rfl) (fun _ _ _ h => h) ?yya_2 ?_; case yya_2 => (refine Or.inl ⟨rfl, fun wx hS => ?_⟩; go_simp; try with_reducible rfl)
              try simp only [Act.put, List.setIfInBounds_toArray, List.set_cons_zero, List.set_cons_succ]
              refine helds_take (i := 3) (d := some 60) (v := ?vya_3) (by assumption) rfl rfl (by kernel_rfl) (fun _ _ _ h => h) ?yya_3 ?_; case yya_3 => (refine Or.inl ⟨rfl, fun wx hS => ?_⟩; go_simp; try with_reducible rfl)
              try simp only [Act.put, List.setIfInBounds_toArray, List.set_cons_zero, List.set_cons_succ]
              refine helds_take (i := 4) (d := some 61) (v := ?vya_4) (by assumption) rfl rfl (by kernel_rfl) (fun _ _ _ h => h) ?yya_4 ?_; case yya_4 => (refine Or.inl ⟨rfl, fun wx hS => ?_⟩; go_simp; try with_reducible rfl)
              try simp only [Act.put, List.setIfInBounds_toArray, List.set_cons_zero, List.set_cons_succ]
              refine helds_take (i := 5) (d := some 62) (v := ?vya_5) (by assumption) rfl rfl (by kernel_rfl) (fun _ _ _ h => h) ?yya_5 ?_; case yya_5 => (refine Or.inl ⟨rfl, fun wx hS => ?_⟩; go_simp; try with_reducible rfl)
              try simp only [Act.put, List.setIfInBounds_toArray, List.set_cons_zero, List.set_cons_succ]
              refine helds_take (i := 6) (d := some 63) (v := _) (by assumption) rfl rfl (by kernel_rfl) (fun _ _ _ h => h) (yields_cell1 (fun w => by kernel_rfl) (.tmp 62) rfl rfl (fun wx hx => (hx.cell HNL.out).trans c0) rfl) ?_
              try simp only [Act.put, List.setIfInBounds_toArray, List.set_cons_zero, List.set_cons_succ]
              refine helds_take (i := 7) (d := some 64) (v := ?vya_7) (by assumption) rfl rfl (by kernel_rfl) (fun _ _ _ h => h) ?yya_7 ?_; case yya_7 => (refine Or.inl ⟨rfl, fun wx hS => ?_⟩; go_simp; try with_reducible rfl)
              try simp only [Act.put, List.setIfInBounds_toArray, List.set_cons_zero, List.set_cons_succ]
              refine helds_take (i := 8) (d := some 65) (v := ?vya_8) (by assumption) rfl rfl (by kernel_rfl) (fun _ _ _ h => h) ?yya_8 ?_; case yya_8 => (refine Or.inl ⟨rfl, fun wx hS => ?_⟩; go_simp; try with_reducible rfl)
              try simp only [Act.put, List.setIfInBounds_toArray, List.set_cons_zero, List.set_cons_succ]
              refine helds_take (i := 9) (d := some 66) (v := ?vya_9) (by assumption) rfl rfl (by kernel_rfl) (fun _ _ _ h => h) ?yya_9 ?_; case yya_9 => (refine Or.inl ⟨rfl, fun wx hS => ?_⟩; go_simp; try with_reducible rfl)
              try simp only [Act.put, List.setIfInBounds_toArray, List.set_cons_zero, List.set_cons_succ]
              refine helds_take (i := 10) (d := some 67) (v := _) (by assumption) rfl rfl (by kernel_rfl) (fun _ _ _ h => h) (yields_cell1 (fun w => by kernel_rfl) (.tmp 66) rfl rfl (fun wx hx => (hx.cell HNL.out).trans c1) rfl) ?_
              try simp only [Act.put, List.setIfInBounds_toArray, List.set_cons_zero, List.set_cons_succ]
              refine helds_take (i := 11) (d := some 68) (v := ?vya_11) (by assumption) rfl rfl (by kernel_rfl) (fun _ _ _ h => h) ?yya_11 ?_; case yya_11 => (refine Or.inl ⟨rfl, fun wx hS => ?_⟩; go_simp; try with_reducible rfl)
              try simp only [Act.put, List.setIfInBounds_toArray, List.set_cons_zero, List.set_cons_succ]
              refine helds_take (i := 12) (d := some 69) (v := ?vya_12) (by assumption) rfl rfl (by kernel_rfl) (fun _ _ _ h => h) ?yya_12 ?_; case yya_12 => (refine Or.inl ⟨rfl, fun wx hS => ?_⟩; go_simp; try with_reducible rfl)
              try simp only [Act.put, List.setIfInBounds_toArray, List.set_cons_zero, List.set_cons_succ]
              refine helds_take (i := 13) (d := some 70) (v := ?vya_13) (by assumption) rfl rfl (by kernel_rfl) (fun _ _ _ h => h) ?yya_13 ?_; case yya_13 => (refine Or.inl ⟨rfl, fun wx hS => ?_⟩; go_simp; try with_reducible rfl)
              try simp only [Act.put, List.setIfInBounds_toArray, List.set_cons_zero, List.set_cons_succ]
              refine helds_take (i := 14) (d := some 71) (v := _) (by assumption) rfl rfl (by kernel_rfl) (fun _ _ _ h => h) (yields_cell1 (fun w => by kernel_rfl) (.tmp 70) rfl rfl (fun wx hx => (hx.cell HNL.out).trans c1) rfl) ?_
              try simp only [Act.put, List.setIfInBounds_toArray, List.set_cons_zero, List.set_cons_succ]
              refine helds_take (i := 15) (d := some 72) (v := ?vya_15) (by assumption) rfl rfl (by kernel_rfl) (fun _ _ _ h => h) ?yya_15 ?_; case yya_15 => (refine Or.inl ⟨rfl, fun wx hS => ?_⟩; go_simp; try with_reducible rfl)
              try simp only [Act.put, List.setIfInBounds_toArray, List.set_cons_zero, List.set_cons_succ]
              refine helds_take (i := 16) (d := some 73) (v := ?vya_16) (by assumption) rfl rfl (by kernel_rfl) (fun _ _ _ h => h) ?yya_16 ?_; case yya_16 => (refine Or.inl ⟨rfl, fun wx hS => ?_⟩; go_simp; try with_reducible rfl)
              try simp only [Act.put, List.setIfInBounds_toArray, List.set_cons_zero, List.set_cons_succ]
              refine helds_take (i := 17) (d := some 74) (v := _) (by assumption) rfl rfl (by kernel_rfl) (fun _ _ _ h => h) (yields_sliceS (v := .slice U' 512 (cu - st)) (.tmp 63) (.tmp 67) (.tmp 73) rfl rfl rfl rfl (by first | rfl | (show Value.int .i64 (IntKind.i64.wrap _) = _; rw [HWK.out])) HSL.out) ?_
              try simp only [Act.put, List.setIfInBounds_toArray, List.set_cons_zero, List.set_cons_succ]
              refine helds_one (i := 2) rfl (by kernel_rfl) rfl (fun K hK => ?_)
              refine wp_lit0D (d := some 59) (e := 5) rfl rfl Try.underlying22 byteInfo ?_
              have hb5 : Below w.heap.size wz (wd.alloc (.cells #[] 5)) := WD.out.alloc SZ.out _
              have G5 := Lib.hid (show wz.grownBy (wd.alloc (.cells #[] 5)) none by rw [← hwd]; exact grown_trans' (grown_drew (World.grownBy.refl _ none)) (grown_alloc _ _ none))
              have N5 := Lib.hid (OwnB.new0 wd wd.heap.size 5 (Nat.le_refl _))
              refine hK.out _ _ (by assumption) (fun _ => ?_)
              clear hK K
              try simp only [Act.put, List.setIfInBounds_toArray, List.set_cons_zero, List.set_cons_succ]
              refine helds_one (i := 18) rfl (by kernel_rfl) rfl (fun K hK => ?_)
              refine wp_appB (d := some 75) byteT rfl (.tmp 59) (.tmp 74) rfl N5.out (RBK.out.below hb5) rfl (by rw [KL.out]; rfl) (by rw [KL.out]; have := KB.out; simp only [List.length_nil]; omega) (Nat.le_of_lt (by rw [World.size_alloc]; exact Nat.lt_succ_self _)) ?_
              intro v6 w6 hown6 hg6 hat6
              obtain ⟨A6, c6, hv6, -, -⟩ := hown6.shape
              rw [List.nil_append, KL.out] at hv6
              subst hv6
              rw [List.nil_append] at hown6
              have hb6 : Below w.heap.size wz w6 := hb5.grown hg6 (Nat.le_trans SZ.out (Nat.le_of_lt (by rw [World.size_alloc]; exact Nat.lt_succ_self _))) (fun k hk => by have := (N5.out.lt k hk).1; have := SZ.out; omega)
              have hwz : wz.heap.size ≤ wd.heap.size := by rw [← hwd]; exact Nat.le_refl _
              have G6 := Lib.hid (show wz.grownBy w6 none from Mod.none (S := fun z => wz.heap.size ≤ z) ((Mod.made G5.out).grown hg6 (fun z hz _ => by have := (N5.out.lt z hz).1; omega)) (fun z hz e => by omega))
              have O6 := Lib.hid (hown6.base_ (Nat.le_trans HSO.out hwz))
              clear hown6 hg6 hat6 hwz
              refine hK.out _ _ (by assumption) (fun _ => ?_)
              clear hK K
              try simp only [Act.put, List.setIfInBounds_toArray, List.set_cons_zero, List.set_cons_succ]
              refine helds_take (i := 19) (d := some 76) (v := ?vya_18) (by assumption) rfl rfl (by kernel_rfl) (fun _ _ _ h => h) ?yya_18 ?_; case yya_18 => (refine Or.inl ⟨rfl, fun wx hS => ?_⟩; go_simp; try with_reducible rfl)
              try simp only [Act.put, List.setIfInBounds_toArray, List.set_cons_zero, List.set_cons_succ]
              refine helds_one (i := 20) rfl (by kernel_rfl) rfl (fun K hK => ?_)
              refine wp_lit1D (d := some 77) (e := 24) (zs := [.int .i64 0, .slice none 0 0]) (p := [.int .i64 (k : Int), .slice A6 512 c6]) rfl rfl Try.underlying33 aggF.hi zeroF rfl (by omega) (by omega) rfl ?_
              have hb7 : Below w.heap.size wz (w6.alloc (.cells #[.int .i64 (k : Int), .slice A6 512 c6] 24)) := hb6.alloc (Nat.le_trans HSO.out G6.out.size) _
              have N7 := Lib.hid (heap_alloc_new w6 (.cells #[.int .i64 (k : Int), .slice A6 512 c6] 24))
              have I7 := Lib.hid (HI.out.made (grown_trans' G6.out (grown_alloc w6 (.cells #[.int .i64 (k : Int), .slice A6 512 c6] 24) none)))
              have O7 := Lib.hid (OwnB.none_ O6.out (grown_alloc w6 (.cells #[.int .i64 (k : Int), .slice A6 512 c6] 24) none))
              refine hK.out _ _ (by assumption) (fun _ => ?_)
              clear hK K
              try simp only [Act.put, List.setIfInBounds_toArray, List.set_cons_zero, List.set_cons_succ]
              refine helds_one (i := 21) rfl (by kernel_rfl) rfl (fun K hK => ?_)
              refine wp_appFD (d := some 78) (f := ((k : Int), body)) rfl (.tmp 57) (.tmp 77) rfl I7.out.of O7.out (fun _ _ => trivial) (ad := ⟨w6.heap.size, 0, none⟩) (c := 1) (cell_of_row _ _ _ _ _ (0, 0) N7.out) (cell_of_row _ _ _ _ _ (0, 0) N7.out) rfl rfl (by rw [HM1.out]; have := HB.out; omega) I7.out.md.size ?_
              intro v8 w8 o8 g8 a8
              obtain ⟨A8, c8, hv8, -, -⟩ := o8.shape
              have hb8 : Below w.heap.size wz w8 := hb7.grown g8 I7.out.md.size (fun z hz => (I7.out.of.lt z hz).1)
              have I8 := Lib.hid (I7.out.app g8 o8)
              generalize hl8 : List.length (_ ++ [_]) = n8 at hv8
              subst hv8
              have LN8 := Lib.hid hl8
              clear o8 g8 a8 hl8
              refine hK.out _ _ (by assumption) (fun _ => ?_)
              clear hK K
              try simp only [Act.put, List.setIfInBounds_toArray, List.set_cons_zero, List.set_cons_succ]
              refine helds_take (i := 22) (d := some 3) (v := ?vya_19) (by assumption) rfl rfl (by kernel_rfl) (fun _ _ _ h => h) ?yya_19 ?_; case yya_19 => (refine Or.inl ⟨rfl, fun wx hS => ?_⟩; go_simp; try with_reducible rfl)
              try simp only [Act.put, List.setIfInBounds_toArray, List.set_cons_zero, List.set_cons_succ]
              refine held_end (by kernel_rfl) ?_ _
              have P1 := Lib.hid (I8.out.put HLT.out 1 (.int .i64 ((st + 512 : Nat) : Int)) (rcSent (D k) (st + 512)) (by omega) rfl rfl rfl)
              have e1 := I8.out.rx.at_ HLT.out (k := 1) rfl
              have f1 := I8.out.rx.cb.free (k * 9 + 1)
              have e7 := P1.out.rx.at_ HLT.out (k := 7) rfl
              have f7 := P1.out.rx.cb.free (k * 9 + 7)
              have g7 := I8.out.rx.at_ HLT.out (k := 7) rfl
              rw [STE.out] at e1
              rw [CRE.out] at g7
              rw [upd_same] at e7
              rw [show (rcSent (D k) (st + 512)).cr = cr from CRE.out] at e7
              have P2 := Lib.hid (P1.out.put HLT.out 7 (.int .i64 ((cr - 512 : Nat) : Int)) (rcSend (D k) 512) (by omega) (by rw [upd_same, ← STE.out, ← CRE.out]; rfl) (by rw [upd_same]; rfl) (by rw [upd_same]; rfl))
              rw [upd_upd] at P2
              have HRL2 := Lib.hid (show RlA (upd DC k (chSend cur 512)) (upd D k (rcSend (D k) 512)) by have := (HRL.out.upd_ RL2.out k); rwa [upd_upd] at this)
              have LN9 := Lib.hid (show n8 = m1 + 1 by have := LN8.out; rw [List.length_append, HM1.out] at this; simpa using this.symm)
              have HF8 := Lib.hid (show F ++ done.map (fun b => ((k : Int), b)) ++ [((k : Int), body)] = F ++ (done ++ [body]).map (fun b => ((k : Int), b)) by rw [List.map_append, List.append_assoc]; rfl)
              rw [HF8.out] at P2 LN8
              clear c0 c1 c7 hwd P1
              generalize ((st + 512 : Nat) : Int) = sK at *
              generalize ((cr - 512 : Nat) : Int) = cK at *
              go_wp2
              go_roundw
              case rel => exact ⟨f', _, chSend cur 512, done ++ [body], A8, n8, c8, rfl, P2.out, LN8.out, HRL2.out, FNXT.out, LI.out.send _, by rw [List.append_assoc, ← HBO.out]; exact D1.out, D2.out, by have := LN9.out; have := HB.out; omega⟩
              case measure =>
                have := LN9.out
                have := HB.out
                simp [lenV]
                omega
            · have hCi : ¬ (512 : Int) < (cr : Int) := by omega
              have HSK := Lib.hid (show sendK cur = cr by omega)
              have hqq := HQ.out
              have HWK := Lib.hid (show IntKind.i64.wrap ((st : Int) + (cr : Int)) = ((st + cr : Nat) : Int) by simp [IntKind.wrap, IntKind.bits, IntKind.signed]; omega)
              have HWC := Lib.hid (show IntKind.i64.wrap ((cr : Int) - (cr : Int)) = ((cr - cr : Nat) : Int) by first | (simp [IntKind.wrap, IntKind.bits, IntKind.signed]; done) | (simp [IntKind.wrap, IntKind.bits, IntKind.signed]; omega))
              have hwk := HWK.out
              have hwc := HWC.out
              obtain ⟨U', hU'⟩ : ∃ x, (if cu = st then U else U.map (·.add st)) = x := ⟨_, rfl⟩
              obtain ⟨body, hbody⟩ : ∃ x, cur.waits.take cr = x := ⟨_, rfl⟩
              have RBK := Lib.hid (show RB wq w.heap.size U' body (cu - st) by
                have := (HUR.out.cut (k := st) (by rw [WLE.out]; omega)).head cr
                have hws2 : cur.waits = (D k).wr.drop st := by rw [HWS.out, STE.out]
                rwa [hU', ← hws2, hbody] at this)
              have KL := Lib.hid (show body.length = cr by rw [← hbody, List.length_take, HWL.out]; omega)
              have KB := Lib.hid (show cr ≤ 512 ∧ cr ≤ cr ∧ st + cr ≤ wl by omega)
              have HBO := Lib.hid hbody
              have HSL := Lib.hid (fun wx => show (Instr.sliceAt 22 (.slice U wl cu) (some (.int .i64 (st : Int))) (some (.int .i64 ((st + cr : Nat) : Int))) none).run Try.prog wx = .ok (.slice U' cr (cu - st)) wx by
                have e := run_cutB (l := st) (h := st + cr) (len := wl) (cap := cu) (a := U) rfl rfl (by omega) (by have := HUR.out.1; rw [WLE.out] at this; omega) wx
                rw [hU', show st + cr - st = cr by omega] at e
                exact e)
              have RL2 := Lib.hid (show Rl (chSend cur cr) (rcSend (D k) cr) from RLC.out.send (by rw [HWL.out]; omega) (by rw [CUC.out]; omega))
              have FNXT := Lib.hid (show (chSend cur cr).credit ≤ f' by have := CF.out; simp only [chSend]; rw [CUC.out] at this ⊢; omega)
              rw [HSK.out] at D1 D2
              clear hU' hbody hsk hqq hp1 hp2 hBj
              go_wp2
              go_quiet (fail)
              have GN := Lib.hid (show wq.grownBy (wq.drewN nq) none from ⟨rfl, rfl, rfl, Nat.le_refl _, fun _ _ _ => rfl⟩)
              have c0 : (wq.drewN nq).cell? ⟨n, k * 9, none⟩ = some (.slice U wl cu) := c0
              have c1 : (wq.drewN nq).cell? ⟨n, k * 9 + 1, none⟩ = some (.int .i64 st) := c1
              have c7 : (wq.drewN nq).cell? ⟨n, k * 9 + 7, none⟩ = some (.int .i64 cr) := c7
              have HI := Lib.hid (HI.out.made GN.out)
              have RBK := Lib.hid (RBK.out.below (below_rw GN.out HSO.out))
              have HSO := Lib.hid (Nat.le_trans HSO.out GN.out.size)
              clear GN
              generalize wq.drewN nq = wy at *
              go_wp2
              go_quiet (fail)
              have GN := Lib.hid (show wy.grownBy (wy.drewN nq) none from ⟨rfl, rfl, rfl, Nat.le_refl _, fun _ _ _ => rfl⟩)
              have c0 : (wy.drewN nq).cell? ⟨n, k * 9, none⟩ = some (.slice U wl cu) := c0
              have c1 : (wy.drewN nq).cell? ⟨n, k * 9 + 1, none⟩ = some (.int .i64 st) := c1
              have c7 : (wy.drewN nq).cell? ⟨n, k * 9 + 7, none⟩ = some (.int .i64 cr) := c7
              have HI := Lib.hid (HI.out.made GN.out)
              have RBK := Lib.hid (RBK.out.below (below_rw GN.out HSO.out))
              have HSO := Lib.hid (Nat.le_trans HSO.out GN.out.size)
              clear GN
              generalize wy.drewN nq = wz at *
              go_wp2_with fail
              have HNL := Lib.hid (show n < w.heap.size from HI.out.nl)
              obtain ⟨wd, hwd⟩ : ∃ x, wz.drew = x := ⟨_, rfl⟩
              have WD := Lib.hid (show Below w.heap.size wz wd by rw [← hwd]; exact ⟨rfl, rfl, rfl, Nat.le_refl _, fun _ _ => rfl⟩)
              have SZ := Lib.hid (show w.heap.size ≤ wd.heap.size by rw [← hwd]; exact HSO.out)
              refine helds_begin (fun x => Below w.heap.size wz x) (by kernel_rfl) (by rw [hwd]; exact WD.out) (fun hb0 => ?_)
              try rw [hwd] at hb0
              try rw [hwd]
              refine helds_take (i := 0) (d := some 57) (v := ?vyb_1) (by assumption) rfl rfl (by kernel_rfl) (fun _ _ _ h => h) ?yyb_1 ?_; case yyb_1 => (refine Or.inl ⟨rfl, fun wx hS => ?_⟩; go_simp; try with_reducible rfl)
              try simp only [Act.put, List.setIfInBounds_toArray, List.set_cons_zero, List.set_cons_succ]
              refine helds_take (i := 1) (d := some 58) (v := ?vyb_2) (by assumption) rfl rfl (by kernel_rfl) (fun _ _ _ h => h) ?yyb_2 ?_; case yyb_2 => (refine Or.inl ⟨rfl, fun wx hS => ?_⟩; go_simp; try with_reducible rfl)
              try simp only [Act.put, List.setIfInBounds_toArray, List.set_cons_zero, List.set_cons_succ]
              refine helds_take (i := 3) (d := some 60) (v := ?vyb_3) (by assumption) rfl rfl (by kernel_rfl) (fun _ _ _ h => h) ?yyb_3 ?_; case yyb_3 => (refine Or.inl ⟨rfl, fun wx hS => ?_⟩; go_simp; try with_reducible rfl)
              try simp only [Act.put, List.setIfInBounds_toArray, List.set_cons_zero, List.set_cons_succ]
              refine helds_take (i := 4) (d := some 61) (v := ?vyb_4) (by assumption) rfl rfl (by kernel_rfl) (fun _ _ _ h => h) ?yyb_4 ?_; case yyb_4 => (refine Or.inl ⟨rfl, fun wx hS => ?_⟩; go_simp; try with_reducible rfl)
              try simp only [Act.put, List.setIfInBounds_toArray, List.set_cons_zero, List.set_cons_succ]
              refine helds_take (i := 5) (d := some 62) (v := ?vyb_5) (by assumption) rfl rfl (by kernel_rfl) (fun _ _ _ h => h) ?yyb_5 ?_; case yyb_5 => (refine Or.inl ⟨rfl, fun wx hS => ?_⟩; go_simp; try with_reducible rfl)
              try simp only [Act.put, List.setIfInBounds_toArray, List.set_cons_zero, List.set_cons_succ]
              refine helds_take (i := 6) (d := some 63) (v := _) (by assumption) rfl rfl (by kernel_rfl) (fun _ _ _ h => h) (yields_cell1 (fun w => by kernel_rfl) (.tmp 62) rfl rfl (fun wx hx => (hx.cell HNL.out).trans c0) rfl) ?_
              try simp only [Act.put, List.setIfInBounds_toArray, List.set_cons_zero, List.set_cons_succ]
              refine helds_take (i := 7) (d := some 64) (v := ?vyb_7) (by assumption) rfl rfl (by kernel_rfl) (fun _ _ _ h => h) ?yyb_7 ?_; case yyb_7 => (refine Or.inl ⟨rfl, fun wx hS => ?_⟩; go_simp; try with_reducible rfl)
              try simp only [Act.put, List.setIfInBounds_toArray, List.set_cons_zero, List.set_cons_succ]
              refine helds_take (i := 8) (d := some 65) (v := ?vyb_8) (by assumption) rfl rfl (by kernel_rfl) (fun _ _ _ h => h) ?yyb_8 ?_; case yyb_8 => (refine Or.inl ⟨rfl, fun wx hS => ?_⟩; go_simp; try with_reducible rfl)
              try simp only [Act.put, List.setIfInBounds_toArray, List.set_cons_zero, List.set_cons_succ]
              refine helds_take (i := 9) (d := some 66) (v := ?vyb_9) (by assumption) rfl rfl (by kernel_rfl) (fun _ _ _ h => h) ?yyb_9 ?_; case yyb_9 => (refine Or.inl ⟨rfl, fun wx hS => ?_⟩; go_simp; try with_reducible rfl)
              try simp only [Act.put, List.setIfInBounds_toArray, List.set_cons_zero, List.set_cons_succ]
              refine helds_take (i := 10) (d := some 67) (v := _) (by assumption) rfl rfl (by kernel_rfl) (fun _ _ _ h => h) (yields_cell1 (fun w => by kernel_rfl) (.tmp 66) rfl rfl (fun wx hx => (hx.cell HNL.out).trans c1) rfl) ?_
              try simp only [Act.put, List.setIfInBounds_toArray, List.set_cons_zero, List.set_cons_succ]
              refine helds_take (i := 11) (d := some 68) (v := ?vyb_11) (by assumption) rfl rfl (by kernel_rfl) (fun _ _ _ h => h) ?yyb_11 ?_; case yyb_11 => (refine Or.inl ⟨rfl, fun wx hS => ?_⟩; go_simp; try with_reducible rfl)
              try simp only [Act.put, List.setIfInBounds_toArray, List.set_cons_zero, List.set_cons_succ]
              refine helds_take (i := 12) (d := some 69) (v := ?vyb_12) (by assumption) rfl rfl (by kernel_rfl) (fun _ _ _ h => h) ?yyb_12 ?_; case yyb_12 => (refine Or.inl ⟨rfl, fun wx hS => ?_⟩; go_simp; try with_reducible rfl)
              try simp only [Act.put, List.setIfInBounds_toArray, List.set_cons_zero, List.set_cons_succ]
              refine helds_take (i := 13) (d := some 70) (v := ?vyb_13) (by assumption) rfl rfl (by kernel_rfl) (fun _ _ _ h => h) ?yyb_13 ?_; case yyb_13 => (refine Or.inl ⟨rfl, fun wx hS => ?_⟩; go_simp; try with_reducible rfl)
              try simp only [Act.put, List.setIfInBounds_toArray, List.set_cons_zero, List.set_cons_succ]
              refine helds_take (i := 14) (d := some 71) (v := _) (by assumption) rfl rfl (by kernel_rfl) (fun _ _ _ h => h) (yields_cell1 (fun w => by kernel_rfl) (.tmp 70) rfl rfl (fun wx hx => (hx.cell HNL.out).trans c1) rfl) ?_
              try simp only [Act.put, List.setIfInBounds_toArray, List.set_cons_zero, List.set_cons_succ]
              refine helds_take (i := 15) (d := some 72) (v := ?vyb_15) (by assumption) rfl rfl (by kernel_rfl) (fun _ _ _ h => h) ?yyb_15 ?_; case yyb_15 => (refine Or.inl ⟨rfl, fun wx hS => ?_⟩; go_simp; try with_reducible rfl)
              try simp only [Act.put, List.setIfInBounds_toArray, List.set_cons_zero, List.set_cons_succ]
              refine helds_take (i := 16) (d := some 73) (v := ?vyb_16) (by assumption) rfl rfl (by kernel_rfl) (fun _ _ _ h => h) ?yyb_16 ?_; case yyb_16 => (refine Or.inl ⟨rfl, fun wx hS => ?_⟩; go_simp; try with_reducible rfl)
              try simp only [Act.put, List.setIfInBounds_toArray, List.set_cons_zero, List.set_cons_succ]
              refine helds_take (i := 17) (d := some 74) (v := _) (by assumption) rfl rfl (by kernel_rfl) (fun _ _ _ h => h) (yields_sliceS (v := .slice U' cr (cu - st)) (.tmp 63) (.tmp 67) (.tmp 73) rfl rfl rfl rfl (by first | rfl | (show Value.int .i64 (IntKind.i64.wrap _) = _; rw [HWK.out])) HSL.out) ?_
              try simp only [Act.put, List.setIfInBounds_toArray, List.set_cons_zero, List.set_cons_succ]
              refine helds_one (i := 2) rfl (by kernel_rfl) rfl (fun K hK => ?_)
              refine wp_lit0D (d := some 59) (e := 5) rfl rfl Try.underlying22 byteInfo ?_
              have hb5 : Below w.heap.size wz (wd.alloc (.cells #[] 5)) := WD.out.alloc SZ.out _
              have G5 := Lib.hid (show wz.grownBy (wd.alloc (.cells #[] 5)) none by rw [← hwd]; exact grown_trans' (grown_drew (World.grownBy.refl _ none)) (grown_alloc _ _ none))
              have N5 := Lib.hid (OwnB.new0 wd wd.heap.size 5 (Nat.le_refl _))
              refine hK.out _ _ (by assumption) (fun _ => ?_)
              clear hK K
              try simp only [Act.put, List.setIfInBounds_toArray, List.set_cons_zero, List.set_cons_succ]
              refine helds_one (i := 18) rfl (by kernel_rfl) rfl (fun K hK => ?_)
              refine wp_appB (d := some 75) byteT rfl (.tmp 59) (.tmp 74) rfl N5.out (RBK.out.below hb5) rfl (by rw [KL.out]; rfl) (by rw [KL.out]; have := KB.out; simp only [List.length_nil]; omega) (Nat.le_of_lt (by rw [World.size_alloc]; exact Nat.lt_succ_self _)) ?_
              intro v6 w6 hown6 hg6 hat6
              obtain ⟨A6, c6, hv6, -, -⟩ := hown6.shape
              rw [List.nil_append, KL.out] at hv6
              subst hv6
              rw [List.nil_append] at hown6
              have hb6 : Below w.heap.size wz w6 := hb5.grown hg6 (Nat.le_trans SZ.out (Nat.le_of_lt (by rw [World.size_alloc]; exact Nat.lt_succ_self _))) (fun k hk => by have := (N5.out.lt k hk).1; have := SZ.out; omega)
              have hwz : wz.heap.size ≤ wd.heap.size := by rw [← hwd]; exact Nat.le_refl _
              have G6 := Lib.hid (show wz.grownBy w6 none from Mod.none (S := fun z => wz.heap.size ≤ z) ((Mod.made G5.out).grown hg6 (fun z hz _ => by have := (N5.out.lt z hz).1; omega)) (fun z hz e => by omega))
              have O6 := Lib.hid (hown6.base_ (Nat.le_trans HSO.out hwz))
              clear hown6 hg6 hat6 hwz
              refine hK.out _ _ (by assumption) (fun _ => ?_)
              clear hK K
              try simp only [Act.put, List.setIfInBounds_toArray, List.set_cons_zero, List.set_cons_succ]
              refine helds_take (i := 19) (d := some 76) (v := ?vyb_18) (by assumption) rfl rfl (by kernel_rfl) (fun _ _ _ h => h) ?yyb_18 ?_; case yyb_18 => (refine Or.inl ⟨rfl, fun wx hS => ?_⟩; go_simp; try with_reducible rfl)
              try simp only [Act.put, List.setIfInBounds_toArray, List.set_cons_zero, List.set_cons_succ]
              refine helds_one (i := 20) rfl (by kernel_rfl) rfl (fun K hK => ?_)
              refine wp_lit1D (d := some 77) (e := 24) (zs := [.int .i64 0, .slice none 0 0]) (p := [.int .i64 (k : Int), .slice A6 cr c6]) rfl rfl Try.underlying33 aggF.hi zeroF rfl (by omega) (by omega) rfl ?_
              have hb7 : Below w.heap.size wz (w6.alloc (.cells #[.int .i64 (k : Int), .slice A6 cr c6] 24)) := hb6.alloc (Nat.le_trans HSO.out G6.out.size) _
              have N7 := Lib.hid (heap_alloc_new w6 (.cells #[.int .i64 (k : Int), .slice A6 cr c6] 24))
              have I7 := Lib.hid (HI.out.made (grown_trans' G6.out (grown_alloc w6 (.cells #[.int .i64 (k : Int), .slice A6 cr c6] 24) none)))
              have O7 := Lib.hid (OwnB.none_ O6.out (grown_alloc w6 (.cells #[.int .i64 (k : Int), .slice A6 cr c6] 24) none))
              refine hK.out _ _ (by assumption) (fun _ => ?_)
              clear hK K
              try simp only [Act.put, List.setIfInBounds_toArray, List.set_cons_zero, List.set_cons_succ]
              refine helds_one (i := 21) rfl (by kernel_rfl) rfl (fun K hK => ?_)
              refine wp_appFD (d := some 78) (f := ((k : Int), body)) rfl (.tmp 57) (.tmp 77) rfl I7.out.of O7.out (fun _ _ => trivial) (ad := ⟨w6.heap.size, 0, none⟩) (c := 1) (cell_of_row _ _ _ _ _ (0, 0) N7.out) (cell_of_row _ _ _ _ _ (0, 0) N7.out) rfl rfl (by rw [HM1.out]; have := HB.out; omega) I7.out.md.size ?_
              intro v8 w8 o8 g8 a8
              obtain ⟨A8, c8, hv8, -, -⟩ := o8.shape
              have hb8 : Below w.heap.size wz w8 := hb7.grown g8 I7.out.md.size (fun z hz => (I7.out.of.lt z hz).1)
              have I8 := Lib.hid (I7.out.app g8 o8)
              generalize hl8 : List.length (_ ++ [_]) = n8 at hv8
              subst hv8
              have LN8 := Lib.hid hl8
              clear o8 g8 a8 hl8
              refine hK.out _ _ (by assumption) (fun _ => ?_)
              clear hK K
              try simp only [Act.put, List.setIfInBounds_toArray, List.set_cons_zero, List.set_cons_succ]
              refine helds_take (i := 22) (d := some 3) (v := ?vyb_19) (by assumption) rfl rfl (by kernel_rfl) (fun _ _ _ h => h) ?yyb_19 ?_; case yyb_19 => (refine Or.inl ⟨rfl, fun wx hS => ?_⟩; go_simp; try with_reducible rfl)
              try simp only [Act.put, List.setIfInBounds_toArray, List.set_cons_zero, List.set_cons_succ]
              refine held_end (by kernel_rfl) ?_ _
              have P1 := Lib.hid (I8.out.put HLT.out 1 (.int .i64 ((st + cr : Nat) : Int)) (rcSent (D k) (st + cr)) (by omega) rfl rfl rfl)
              have e1 := I8.out.rx.at_ HLT.out (k := 1) rfl
              have f1 := I8.out.rx.cb.free (k * 9 + 1)
              have e7 := P1.out.rx.at_ HLT.out (k := 7) rfl
              have f7 := P1.out.rx.cb.free (k * 9 + 7)
              have g7 := I8.out.rx.at_ HLT.out (k := 7) rfl
              rw [STE.out] at e1
              rw [CRE.out] at g7
              rw [upd_same] at e7
              rw [show (rcSent (D k) (st + cr)).cr = cr from CRE.out] at e7
              have P2 := Lib.hid (P1.out.put HLT.out 7 (.int .i64 ((cr - cr : Nat) : Int)) (rcSend (D k) cr) (by omega) (by rw [upd_same, ← STE.out, ← CRE.out]; rfl) (by rw [upd_same]; rfl) (by rw [upd_same]; rfl))
              rw [upd_upd] at P2
              have HRL2 := Lib.hid (show RlA (upd DC k (chSend cur cr)) (upd D k (rcSend (D k) cr)) by have := (HRL.out.upd_ RL2.out k); rwa [upd_upd] at this)
              have LN9 := Lib.hid (show n8 = m1 + 1 by have := LN8.out; rw [List.length_append, HM1.out] at this; simpa using this.symm)
              have HF8 := Lib.hid (show F ++ done.map (fun b => ((k : Int), b)) ++ [((k : Int), body)] = F ++ (done ++ [body]).map (fun b => ((k : Int), b)) by rw [List.map_append, List.append_assoc]; rfl)
              rw [HF8.out] at P2 LN8
              clear c0 c1 c7 hwd P1
              generalize ((st + cr : Nat) : Int) = sK at *
              rw [show ((cr - cr : Nat) : Int) = 0 by simp] at P2
              go_wp2
              go_roundw
              case rel => exact ⟨f', _, chSend cur cr, done ++ [body], A8, n8, c8, rfl, P2.out, LN8.out, HRL2.out, FNXT.out, LI.out.send _, by rw [List.append_assoc, ← HBO.out]; exact D1.out, D2.out, by have := LN9.out; have := HB.out; omega⟩
              case measure =>
                have := LN9.out
                have := HB.out
                simp [lenV]
                omega
          · have hAi : ¬ (cr : Int) < (q : Int) := by omega
            by_cases hC : 512 < q
            · have hCi : (512 : Int) < (q : Int) := by omega
              have HSK := Lib.hid (show sendK cur = 512 by omega)
              have hqq := HQ.out
              have HWK := Lib.hid (show IntKind.i64.wrap ((st : Int) + 512) = ((st + 512 : Nat) : Int) by simp [IntKind.wrap, IntKind.bits, IntKind.signed]; omega)
              have HWC := Lib.hid (show IntKind.i64.wrap ((cr : Int) - 512) = ((cr - 512 : Nat) : Int) by first | (simp [IntKind.wrap, IntKind.bits, IntKind.signed]; done) | (simp [IntKind.wrap, IntKind.bits, IntKind.signed]; omega))
              have hwk := HWK.out
              have hwc := HWC.out
              obtain ⟨U', hU'⟩ : ∃ x, (if cu = st then U else U.map (·.add st)) = x := ⟨_, rfl⟩
              obtain ⟨body, hbody⟩ : ∃ x, cur.waits.take 512 = x := ⟨_, rfl⟩
              have RBK := Lib.hid (show RB wq w.heap.size U' body (cu - st) by
                have := (HUR.out.cut (k := st) (by rw [WLE.out]; omega)).head 512
                have hws2 : cur.waits = (D k).wr.drop st := by rw [HWS.out, STE.out]
                rwa [hU', ← hws2, hbody] at this)
              have KL := Lib.hid (show body.length = 512 by rw [← hbody, List.length_take, HWL.out]; omega)
              have KB := Lib.hid (show 512 ≤ 512 ∧ 512 ≤ cr ∧ st + 512 ≤ wl by omega)
              have HBO := Lib.hid hbody
              have HSL := Lib.hid (fun wx => show (Instr.sliceAt 22 (.slice U wl cu) (some (.int .i64 (st : Int))) (some (.int .i64 ((st + 512 : Nat) : Int))) none).run Try.prog wx = .ok (.slice U' 512 (cu - st)) wx by
                have e := run_cutB (l := st) (h := st + 512) (len := wl) (cap := cu) (a := U) rfl rfl (by omega) (by have := HUR.out.1; rw [WLE.out] at this; omega) wx
                rw [hU', show st + 512 - st = 512 by omega] at e
                exact e)
              have RL2 := Lib.hid (show Rl (chSend cur 512) (rcSend (D k) 512) from RLC.out.send (by rw [HWL.out]; omega) (by rw [CUC.out]; omega))
              have FNXT := Lib.hid (show (chSend cur 512).credit ≤ f' by have := CF.out; simp only [chSend]; rw [CUC.out] at this ⊢; omega)
              rw [HSK.out] at D1 D2
              clear hU' hbody hsk hqq hp1 hp2 hBj
              go_wp2
              go_quiet (fail)
              have GN := Lib.hid (show wq.grownBy (wq.drewN nq) none from ⟨rfl, rfl, rfl, Nat.le_refl _, fun _ _ _ => rfl⟩)
              have c0 : (wq.drewN nq).cell? ⟨n, k * 9, none⟩ = some (.slice U wl cu) := c0
              have c1 : (wq.drewN nq).cell? ⟨n, k * 9 + 1, none⟩ = some (.int .i64 st) := c1
              have c7 : (wq.drewN nq).cell? ⟨n, k * 9 + 7, none⟩ = some (.int .i64 cr) := c7
              have HI := Lib.hid (HI.out.made GN.out)
              have RBK := Lib.hid (RBK.out.below (below_rw GN.out HSO.out))
              have HSO := Lib.hid (Nat.le_trans HSO.out GN.out.size)
              clear GN
              generalize wq.drewN nq = wy at *
              go_wp2
              go_quiet (fail)
              have GN := Lib.hid (show wy.grownBy (wy.drewN nq) none from ⟨rfl, rfl, rfl, Nat.le_refl _, fun _ _ _ => rfl⟩)
              have c0 : (wy.drewN nq).cell? ⟨n, k * 9, none⟩ = some (.slice U wl cu) := c0
              have c1 : (wy.drewN nq).cell? ⟨n, k * 9 + 1, none⟩ = some (.int .i64 st) := c1
              have c7 : (wy.drewN nq).cell? ⟨n, k * 9 + 7, none⟩ = some (.int .i64 cr) := c7
              have HI := Lib.hid (HI.out.made GN.out)
              have RBK := Lib.hid (RBK.out.below (below_rw GN.out HSO.out))
              have HSO := Lib.hid (Nat.le_trans HSO.out GN.out.size)
              clear GN
              generalize wy.drewN nq = wz at *
              go_wp2_with fail
              have HNL := Lib.hid (show n < w.heap.size from HI.out.nl)
              obtain ⟨wd, hwd⟩ : ∃ x, wz.drew = x := ⟨_, rfl⟩
              have WD := Lib.hid (show Below w.heap.size wz wd by rw [← hwd]; exact ⟨rfl, rfl, rfl, Nat.le_refl _, fun _ _ => rfl⟩)
              have SZ := Lib.hid (show w.heap.size ≤ wd.heap.size by rw [← hwd]; exact HSO.out)
              refine helds_begin (fun x => Below w.heap.size wz x) (by kernel_rfl) (by rw [hwd]; exact WD.out) (fun hb0 => ?_)
              try rw [hwd] at hb0
              try rw [hwd]
              refine helds_take (i := 0) (d := some 57) (v := ?vyc_1) (by assumption) rfl rfl (by kernel_rfl) (fun _ _ _ h => h) ?yyc_1 ?_; case yyc_1 => (refine Or.inl ⟨rfl, fun wx hS => ?_⟩; go_simp; try with_reducible rfl)
              try simp only [Act.put, List.setIfInBounds_toArray, List.set_cons_zero, List.set_cons_succ]
              refine helds_take (i := 1) (d := some 58) (v := ?vyc_2) (by assumption) rfl rfl (by kernel_rfl) (fun _ _ _ h => h) ?yyc_2 ?_; case yyc_2 => (refine Or.inl ⟨rfl, fun wx hS => ?_⟩; go_simp; try with_reducible rfl)
              try simp only [Act.put, List.setIfInBounds_toArray, List.set_cons_zero, List.set_cons_succ]
              refine helds_take (i := 3) (d := some 60) (v := ?vyc_3) (by assumption) rfl rfl (by kernel_rfl) (fun _ _ _ h => h) ?yyc_3 ?_; case yyc_3 => (refine Or.inl ⟨rfl, fun wx hS => ?_⟩; go_simp; try with_reducible rfl)
              try simp only [Act.put, List.setIfInBounds_toArray, List.set_cons_zero, List.set_cons_succ]
              refine helds_take (i := 4) (d := some 61) (v := ?vyc_4) (by assumption) rfl rfl (by kernel_rfl) (fun _ _ _ h => h) ?yyc_4 ?_; case yyc_4 => (refine Or.inl ⟨rfl, fun wx hS => ?_⟩; go_simp; try with_reducible rfl)
              try simp only [Act.put, List.setIfInBounds_toArray, List.set_cons_zero, List.set_cons_succ]
              refine helds_take (i := 5) (d := some 62) (v := ?vyc_5) (by assumption) rfl rfl (by kernel_rfl) (fun _ _ _ h => h) ?yyc_5 ?_; case yyc_5 => (refine Or.inl ⟨rfl, fun wx hS => ?_⟩; go_simp; try with_reducible rfl)
              try simp only [Act.put, List.setIfInBounds_toArray, List.set_cons_zero, List.set_cons_succ]
              refine helds_take (i := 6) (d := some 63) (v := _) (by assumption) rfl rfl (by kernel_rfl) (fun _ _ _ h => h) (yields_cell1 (fun w => by kernel_rfl) (.tmp 62) rfl rfl (fun wx hx => (hx.cell HNL.out).trans c0) rfl) ?_
              try simp only [Act.put, List.setIfInBounds_toArray, List.set_cons_zero, List.set_cons_succ]
              refine helds_take (i := 7) (d := some 64) (v := ?vyc_7) (by assumption) rfl rfl (by kernel_rfl) (fun _ _ _ h => h) ?yyc_7 ?_; case yyc_7 => (refine Or.inl ⟨rfl, fun wx hS => ?_⟩; go_simp; try with_reducible rfl)
              try simp only [Act.put, List.setIfInBounds_toArray, List.set_cons_zero, List.set_cons_succ]
              refine helds_take (i := 8) (d := some 65) (v := ?vyc_8) (by assumption) rfl rfl (by kernel_rfl) (fun _ _ _ h => h) ?yyc_8 ?_; case yyc_8 => (refine Or.inl ⟨rfl, fun wx hS => ?_⟩; go_simp; try with_reducible rfl)
              try simp only [Act.put, List.setIfInBounds_toArray, List.set_cons_zero, List.set_cons_succ]
              refine helds_take (i := 9) (d := some 66) (v := ?vyc_9) (by assumption) rfl rfl (by kernel_rfl) (fun _ _ _ h => h) ?yyc_9 ?_; case yyc_9 => (refine Or.inl ⟨rfl, fun wx hS => ?_⟩; go_simp; try with_reducible rfl)
              try simp only [Act.put, List.setIfInBounds_toArray, List.set_cons_zero, List.set_cons_succ]
              refine helds_take (i := 10) (d := some 67) (v := _) (by assumption) rfl rfl (by kernel_rfl) (fun _ _ _ h => h) (yields_cell1 (fun w => by kernel_rfl) (.tmp 66) rfl rfl (fun wx hx => (hx.cell HNL.out).trans c1) rfl) ?_
              try simp only [Act.put, List.setIfInBounds_toArray, List.set_cons_zero, List.set_cons_succ]
              refine helds_take (i := 11) (d := some 68) (v := ?vyc_11) (by assumption) rfl rfl (by kernel_rfl) (fun _ _ _ h => h) ?yyc_11 ?_; case yyc_11 => (refine Or.inl ⟨rfl, fun wx hS => ?_⟩; go_simp; try with_reducible rfl)
              try simp only [Act.put, List.setIfInBounds_toArray, List.set_cons_zero, List.set_cons_succ]
              refine helds_take (i := 12) (d := some 69) (v := ?vyc_12) (by assumption) rfl rfl (by kernel_rfl) (fun _ _ _ h => h) ?yyc_12 ?_; case yyc_12 => (refine Or.inl ⟨rfl, fun wx hS => ?_⟩; go_simp; try with_reducible rfl)
              try simp only [Act.put, List.setIfInBounds_toArray, List.set_cons_zero, List.set_cons_succ]
              refine helds_take (i := 13) (d := some 70) (v := ?vyc_13) (by assumption) rfl rfl (by kernel_rfl) (fun _ _ _ h => h) ?yyc_13 ?_; case yyc_13 => (refine Or.inl ⟨rfl, fun wx hS => ?_⟩; go_simp; try with_reducible rfl)
              try simp only [Act.put, List.setIfInBounds_toArray, List.set_cons_zero, List.set_cons_succ]
              refine helds_take (i := 14) (d := some 71) (v := _) (by assumption) rfl rfl (by kernel_rfl) (fun _ _ _ h => h) (yields_cell1 (fun w => by kernel_rfl) (.tmp 70) rfl rfl (fun wx hx => (hx.cell HNL.out).trans c1) rfl) ?_
              try simp only [Act.put, List.setIfInBounds_toArray, List.set_cons_zero, List.set_cons_succ]
              refine helds_take (i := 15) (d := some 72) (v := ?vyc_15) (by assumption) rfl rfl (by kernel_rfl) (fun _ _ _ h => h) ?yyc_15 ?_; case yyc_15 => (refine Or.inl ⟨rfl, fun wx hS => ?_⟩; go_simp; try with_reducible rfl)
              try simp only [Act.put, List.setIfInBounds_toArray, List.set_cons_zero, List.set_cons_succ]
              refine helds_take (i := 16) (d := some 73) (v := ?vyc_16) (by assumption) rfl rfl (by kernel_rfl) (fun _ _ _ h => h) ?yyc_16 ?_; case yyc_16 => (refine Or.inl ⟨rfl, fun wx hS => ?_⟩; go_simp; try with_reducible rfl)
              try simp only [Act.put, List.setIfInBounds_toArray, List.set_cons_zero, List.set_cons_succ]
              refine helds_take (i := 17) (d := some 74) (v := _) (by assumption) rfl rfl (by kernel_rfl) (fun _ _ _ h => h) (yields_sliceS (v := .slice U' 512 (cu - st)) (.tmp 63) (.tmp 67) (.tmp 73) rfl rfl rfl rfl (by first | rfl | (show Value.int .i64 (IntKind.i64.wrap _) = _; rw [HWK.out])) HSL.out) ?_
              try simp only [Act.put, List.setIfInBounds_toArray, List.set_cons_zero, List.set_cons_succ]
              refine helds_one (i := 2) rfl (by kernel_rfl) rfl (fun K hK => ?_)
              refine wp_lit0D (d := some 59) (e := 5) rfl rfl Try.underlying22 byteInfo ?_
              have hb5 : Below w.heap.size wz (wd.alloc (.cells #[] 5)) := WD.out.alloc SZ.out _
              have G5 := Lib.hid (show wz.grownBy (wd.alloc (.cells #[] 5)) none by rw [← hwd]; exact grown_trans' (grown_drew (World.grownBy.refl _ none)) (grown_alloc _ _ none))
              have N5 := Lib.hid (OwnB.new0 wd wd.heap.size 5 (Nat.le_refl _))
              refine hK.out _ _ (by assumption) (fun _ => ?_)
              clear hK K
              try simp only [Act.put, List.setIfInBounds_toArray, List.set_cons_zero, List.set_cons_succ]
              refine helds_one (i := 18) rfl (by kernel_rfl) rfl (fun K hK => ?_)
              refine wp_appB (d := some 75) byteT rfl (.tmp 59) (.tmp 74) rfl N5.out (RBK.out.below hb5) rfl (by rw [KL.out]; rfl) (by rw [KL.out]; have := KB.out; simp only [List.length_nil]; omega) (Nat.le_of_lt (by rw [World.size_alloc]; exact Nat.lt_succ_self _)) ?_
              intro v6 w6 hown6 hg6 hat6
              obtain ⟨A6, c6, hv6, -, -⟩ := hown6.shape
              rw [List.nil_append, KL.out] at hv6
              subst hv6
              rw [List.nil_append] at hown6
              have hb6 : Below w.heap.size wz w6 := hb5.grown hg6 (Nat.le_trans SZ.out (Nat.le_of_lt (by rw [World.size_alloc]; exact Nat.lt_succ_self _))) (fun k hk => by have := (N5.out.lt k hk).1; have := SZ.out; omega)
              have hwz : wz.heap.size ≤ wd.heap.size := by rw [← hwd]; exact Nat.le_refl _
              have G6 := Lib.hid (show wz.grownBy w6 none from Mod.none (S := fun z => wz.heap.size ≤ z) ((Mod.made G5.out).grown hg6 (fun z hz _ => by have := (N5.out.lt z hz).1; omega)) (fun z hz e => by omega))
              have O6 := Lib.hid (hown6.base_ (Nat.le_trans HSO.out hwz))
              clear hown6 hg6 hat6 hwz
              refine hK.out _ _ (by assumption) (fun _ => ?_)
              clear hK K
              try simp only [Act.put, List.setIfInBounds_toArray, List.set_cons_zero, List.set_cons_succ]
              refine helds_take (i := 19) (d := some 76) (v := ?vyc_18) (by assumption) rfl rfl (by kernel_rfl) (fun _ _ _ h => h) ?yyc_18 ?_; case yyc_18 => (refine Or.inl ⟨rfl, fun wx hS => ?_⟩; go_simp; try with_reducible rfl)
              try simp only [Act.put, List.setIfInBounds_toArray, List.set_cons_zero, List.set_cons_succ]
              refine helds_one (i := 20) rfl (by kernel_rfl) rfl (fun K hK => ?_)
              refine wp_lit1D (d := some 77) (e := 24) (zs := [.int .i64 0, .slice none 0 0]) (p := [.int .i64 (k : Int), .slice A6 512 c6]) rfl rfl Try.underlying33 aggF.hi zeroF rfl (by omega) (by omega) rfl ?_
              have hb7 : Below w.heap.size wz (w6.alloc (.cells #[.int .i64 (k : Int), .slice A6 512 c6] 24)) := hb6.alloc (Nat.le_trans HSO.out G6.out.size) _
              have N7 := Lib.hid (heap_alloc_new w6 (.cells #[.int .i64 (k : Int), .slice A6 512 c6] 24))
              have I7 := Lib.hid (HI.out.made (grown_trans' G6.out (grown_alloc w6 (.cells #[.int .i64 (k : Int), .slice A6 512 c6] 24) none)))
              have O7 := Lib.hid (OwnB.none_ O6.out (grown_alloc w6 (.cells #[.int .i64 (k : Int), .slice A6 512 c6] 24) none))
              refine hK.out _ _ (by assumption) (fun _ => ?_)
              clear hK K
              try simp only [Act.put, List.setIfInBounds_toArray, List.set_cons_zero, List.set_cons_succ]
              refine helds_one (i := 21) rfl (by kernel_rfl) rfl (fun K hK => ?_)
              refine wp_appFD (d := some 78) (f := ((k : Int), body)) rfl (.tmp 57) (.tmp 77) rfl I7.out.of O7.out (fun _ _ => trivial) (ad := ⟨w6.heap.size, 0, none⟩) (c := 1) (cell_of_row _ _ _ _ _ (0, 0) N7.out) (cell_of_row _ _ _ _ _ (0, 0) N7.out) rfl rfl (by rw [HM1.out]; have := HB.out; omega) I7.out.md.size ?_
              intro v8 w8 o8 g8 a8
              obtain ⟨A8, c8, hv8, -, -⟩ := o8.shape
              have hb8 : Below w.heap.size wz w8 := hb7.grown g8 I7.out.md.size (fun z hz => (I7.out.of.lt z hz).1)
              have I8 := Lib.hid (I7.out.app g8 o8)
              generalize hl8 : List.length (_ ++ [_]) = n8 at hv8
              subst hv8
              have LN8 := Lib.hid hl8
              clear o8 g8 a8 hl8
              refine hK.out _ _ (by assumption) (fun _ => ?_)
              clear hK K
              try simp only [Act.put, List.setIfInBounds_toArray, List.set_cons_zero, List.set_cons_succ]
              refine helds_take (i := 22) (d := some 3) (v := ?vyc_19) (by assumption) rfl rfl (by kernel_rfl) (fun _ _ _ h => h) ?yyc_19 ?_; case yyc_19 => (refine Or.inl ⟨rfl, fun wx hS => ?_⟩; go_simp; try with_reducible rfl)
              try simp only [Act.put, List.setIfInBounds_toArray, List.set_cons_zero, List.set_cons_succ]
              refine held_end (by kernel_rfl) ?_ _
              have P1 := Lib.hid (I8.out.put HLT.out 1 (.int .i64 ((st + 512 : Nat) : Int)) (rcSent (D k) (st + 512)) (by omega) rfl rfl rfl)
              have e1 := I8.out.rx.at_ HLT.out (k := 1) rfl
              have f1 := I8.out.rx.cb.free (k * 9 + 1)
              have e7 := P1.out.rx.at_ HLT.out (k := 7) rfl
              have f7 := P1.out.rx.cb.free (k * 9 + 7)
              have g7 := I8.out.rx.at_ HLT.out (k := 7) rfl
              rw [STE.out] at e1
              rw [CRE.out] at g7
              rw [upd_same] at e7
              rw [show (rcSent (D k) (st + 512)).cr = cr from CRE.out] at e7
              have P2 := Lib.hid (P1.out.put HLT.out 7 (.int .i64 ((cr - 512 : Nat) : Int)) (rcSend (D k) 512) (by omega) (by rw [upd_same, ← STE.out, ← CRE.out]; rfl) (by rw [upd_same]; rfl) (by rw [upd_same]; rfl))
              rw [upd_upd] at P2
              have HRL2 := Lib.hid (show RlA (upd DC k (chSend cur 512)) (upd D k (rcSend (D k) 512)) by have := (HRL.out.upd_ RL2.out k); rwa [upd_upd] at this)
              have LN9 := Lib.hid (show n8 = m1 + 1 by have := LN8.out; rw [List.length_append, HM1.out] at this; simpa using this.symm)
              have HF8 := Lib.hid (show F ++ done.map (fun b => ((k : Int), b)) ++ [((k : Int), body)] = F ++ (done ++ [body]).map (fun b => ((k : Int), b)) by rw [List.map_append, List.append_assoc]; rfl)
              rw [HF8.out] at P2 LN8
              clear c0 c1 c7 hwd P1
              generalize ((st + 512 : Nat) : Int) = sK at *
              generalize ((cr - 512 : Nat) : Int) = cK at *
              go_wp2
              go_roundw
              case rel => exact ⟨f', _, chSend cur 512, done ++ [body], A8, n8, c8, rfl, P2.out, LN8.out, HRL2.out, FNXT.out, LI.out.send _, by rw [List.append_assoc, ← HBO.out]; exact D1.out, D2.out, by have := LN9.out; have := HB.out; omega⟩
              case measure =>
                have := LN9.out
                have := HB.out
                simp [lenV]
                omega
            · have hCi : ¬ (512 : Int) < (q : Int) := by omega
              have HSK := Lib.hid (show sendK cur = q by omega)
              have hqq := HQ.out
              have HWK := Lib.hid (show IntKind.i64.wrap ((st : Int) + (q : Int)) = ((st + q : Nat) : Int) by simp [IntKind.wrap, IntKind.bits, IntKind.signed]; omega)
              have HWC := Lib.hid (show IntKind.i64.wrap ((cr : Int) - (q : Int)) = ((cr - q : Nat) : Int) by first | (simp [IntKind.wrap, IntKind.bits, IntKind.signed]; done) | (simp [IntKind.wrap, IntKind.bits, IntKind.signed]; omega))
              have hwk := HWK.out
              have hwc := HWC.out
              obtain ⟨U', hU'⟩ : ∃ x, (if cu = st then U else U.map (·.add st)) = x := ⟨_, rfl⟩
              obtain ⟨body, hbody⟩ : ∃ x, cur.waits.take q = x := ⟨_, rfl⟩
              have RBK := Lib.hid (show RB wq w.heap.size U' body (cu - st) by
                have := (HUR.out.cut (k := st) (by rw [WLE.out]; omega)).head q
                have hws2 : cur.waits = (D k).wr.drop st := by rw [HWS.out, STE.out]
                rwa [hU', ← hws2, hbody] at this)
              have KL := Lib.hid (show body.length = q by rw [← hbody, List.length_take, HWL.out]; omega)
              have KB := Lib.hid (show q ≤ 512 ∧ q ≤ cr ∧ st + q ≤ wl by omega)
              have HBO := Lib.hid hbody
              have HSL := Lib.hid (fun wx => show (Instr.sliceAt 22 (.slice U wl cu) (some (.int .i64 (st : Int))) (some (.int .i64 ((st + q : Nat) : Int))) none).run Try.prog wx = .ok (.slice U' q (cu - st)) wx by
                have e := run_cutB (l := st) (h := st + q) (len := wl) (cap := cu) (a := U) rfl rfl (by omega) (by have := HUR.out.1; rw [WLE.out] at this; omega) wx
                rw [hU', show st + q - st = q by omega] at e
                exact e)
              have RL2 := Lib.hid (show Rl (chSend cur q) (rcSend (D k) q) from RLC.out.send (by rw [HWL.out]; omega) (by rw [CUC.out]; omega))
              have FNXT := Lib.hid (show (chSend cur q).credit ≤ f' by have := CF.out; simp only [chSend]; rw [CUC.out] at this ⊢; omega)
              rw [HSK.out] at D1 D2
              clear hU' hbody hsk hqq hp1 hp2 hBj
              go_wp2
              go_quiet (fail)
              have GN := Lib.hid (show wq.grownBy (wq.drewN nq) none from ⟨rfl, rfl, rfl, Nat.le_refl _, fun _ _ _ => rfl⟩)
              have c0 : (wq.drewN nq).cell? ⟨n, k * 9, none⟩ = some (.slice U wl cu) := c0
              have c1 : (wq.drewN nq).cell? ⟨n, k * 9 + 1, none⟩ = some (.int .i64 st) := c1
              have c7 : (wq.drewN nq).cell? ⟨n, k * 9 + 7, none⟩ = some (.int .i64 cr) := c7
              have HI := Lib.hid (HI.out.made GN.out)
              have RBK := Lib.hid (RBK.out.below (below_rw GN.out HSO.out))
              have HSO := Lib.hid (Nat.le_trans HSO.out GN.out.size)
              clear GN
              generalize wq.drewN nq = wy at *
              go_wp2
              go_quiet (fail)
              have GN := Lib.hid (show wy.grownBy (wy.drewN nq) none from ⟨rfl, rfl, rfl, Nat.le_refl _, fun _ _ _ => rfl⟩)
              have c0 : (wy.drewN nq).cell? ⟨n, k * 9, none⟩ = some (.slice U wl cu) := c0
              have c1 : (wy.drewN nq).cell? ⟨n, k * 9 + 1, none⟩ = some (.int .i64 st) := c1
              have c7 : (wy.drewN nq).cell? ⟨n, k * 9 + 7, none⟩ = some (.int .i64 cr) := c7
              have HI := Lib.hid (HI.out.made GN.out)
              have RBK := Lib.hid (RBK.out.below (below_rw GN.out HSO.out))
              have HSO := Lib.hid (Nat.le_trans HSO.out GN.out.size)
              clear GN
              generalize wy.drewN nq = wz at *
              go_wp2_with fail
              have HNL := Lib.hid (show n < w.heap.size from HI.out.nl)
              obtain ⟨wd, hwd⟩ : ∃ x, wz.drew = x := ⟨_, rfl⟩
              have WD := Lib.hid (show Below w.heap.size wz wd by rw [← hwd]; exact ⟨rfl, rfl, rfl, Nat.le_refl _, fun _ _ => rfl⟩)
              have SZ := Lib.hid (show w.heap.size ≤ wd.heap.size by rw [← hwd]; exact HSO.out)
              refine helds_begin (fun x => Below w.heap.size wz x) (by kernel_rfl) (by rw [hwd]; exact WD.out) (fun hb0 => ?_)
              try rw [hwd] at hb0
              try rw [hwd]
              refine helds_take (i := 0) (d := some 57) (v := ?vyd_1) (by assumption) rfl rfl (by kernel_rfl) (fun _ _ _ h => h) ?yyd_1 ?_; case yyd_1 => (refine Or.inl ⟨rfl, fun wx hS => ?_⟩; go_simp; try with_reducible rfl)
              try simp only [Act.put, List.setIfInBounds_toArray, List.set_cons_zero, List.set_cons_succ]
              refine helds_take (i := 1) (d := some 58) (v := ?vyd_2) (by assumption) rfl rfl (by kernel_rfl) (fun _ _ _ h => h) ?yyd_2 ?_; case yyd_2 => (refine Or.inl ⟨rfl, fun wx hS => ?_⟩; go_simp; try with_reducible rfl)
              try simp only [Act.put, List.setIfInBounds_toArray, List.set_cons_zero, List.set_cons_succ]
              refine helds_take (i := 3) (d := some 60) (v := ?vyd_3) (by assumption) rfl rfl (by kernel_rfl) (fun _ _ _ h => h) ?yyd_3 ?_; case yyd_3 => (refine Or.inl ⟨rfl, fun wx hS => ?_⟩; go_simp; try with_reducible rfl)
              try simp only [Act.put, List.setIfInBounds_toArray, List.set_cons_zero, List.set_cons_succ]
              refine helds_take (i := 4) (d := some 61) (v := ?vyd_4) (by assumption) rfl rfl (by kernel_rfl) (fun _ _ _ h => h) ?yyd_4 ?_; case yyd_4 => (refine Or.inl ⟨rfl, fun wx hS => ?_⟩; go_simp; try with_reducible rfl)
              try simp only [Act.put, List.setIfInBounds_toArray, List.set_cons_zero, List.set_cons_succ]
              refine helds_take (i := 5) (d := some 62) (v := ?vyd_5) (by assumption) rfl rfl (by kernel_rfl) (fun _ _ _ h => h) ?yyd_5 ?_; case yyd_5 => (refine Or.inl ⟨rfl, fun wx hS => ?_⟩; go_simp; try with_reducible rfl)
              try simp only [Act.put, List.setIfInBounds_toArray, List.set_cons_zero, List.set_cons_succ]
              refine helds_take (i := 6) (d := some 63) (v := _) (by assumption) rfl rfl (by kernel_rfl) (fun _ _ _ h => h) (yields_cell1 (fun w => by kernel_rfl) (.tmp 62) rfl rfl (fun wx hx => (hx.cell HNL.out).trans c0) rfl) ?_
              try simp only [Act.put, List.setIfInBounds_toArray, List.set_cons_zero, List.set_cons_succ]
              refine helds_take (i := 7) (d := some 64) (v := ?vyd_7) (by assumption) rfl rfl (by kernel_rfl) (fun _ _ _ h => h) ?yyd_7 ?_; case yyd_7 => (refine Or.inl ⟨rfl, fun wx hS => ?_⟩; go_simp; try with_reducible rfl)
              try simp only [Act.put, List.setIfInBounds_toArray, List.set_cons_zero, List.set_cons_succ]
              refine helds_take (i := 8) (d := some 65) (v := ?vyd_8) (by assumption) rfl rfl (by kernel_rfl) (fun _ _ _ h => h) ?yyd_8 ?_; case yyd_8 => (refine Or.inl ⟨rfl, fun wx hS => ?_⟩; go_simp; try with_reducible rfl)
              try simp only [Act.put, List.setIfInBounds_toArray, List.set_cons_zero, List.set_cons_succ]
              refine helds_take (i := 9) (d := some 66) (v := ?vyd_9) (by assumption) rfl rfl (by kernel_rfl) (fun _ _ _ h => h) ?yyd_9 ?_; case yyd_9 => (refine Or.inl ⟨rfl, fun wx hS => ?_⟩; go_simp; try with_reducible rfl)
              try simp only [Act.put, List.setIfInBounds_toArray, List.set_cons_zero, List.set_cons_succ]
              refine helds_take (i := 10) (d := some 67) (v := _) (by assumption) rfl rfl (by kernel_rfl) (fun _ _ _ h => h) (yields_cell1 (fun w => by kernel_rfl) (.tmp 66) rfl rfl (fun wx hx => (hx.cell HNL.out).trans c1) rfl) ?_
              try simp only [Act.put, List.setIfInBounds_toArray, List.set_cons_zero, List.set_cons_succ]
              refine helds_take (i := 11) (d := some 68) (v := ?vyd_11) (by assumption) rfl rfl (by kernel_rfl) (fun _ _ _ h => h) ?yyd_11 ?_; case yyd_11 => (refine Or.inl ⟨rfl, fun wx hS => ?_⟩; go_simp; try with_reducible rfl)
              try simp only [Act.put, List.setIfInBounds_toArray, List.set_cons_zero, List.set_cons_succ]
              refine helds_take (i := 12) (d := some 69) (v := ?vyd_12) (by assumption) rfl rfl (by kernel_rfl) (fun _ _ _ h => h) ?yyd_12 ?_; case yyd_12 => (refine Or.inl ⟨rfl, fun wx hS => ?_⟩; go_simp; try with_reducible rfl)
              try simp only [Act.put, List.setIfInBounds_toArray, List.set_cons_zero, List.set_cons_succ]
              refine helds_take (i := 13) (d := some 70) (v := ?vyd_13) (by assumption) rfl rfl (by kernel_rfl) (fun _ _ _ h => h) ?yyd_13 ?_; case yyd_13 => (refine Or.inl ⟨rfl, fun wx hS => ?_⟩; go_simp; try with_reducible rfl)
              try simp only [Act.put, List.setIfInBounds_toArray, List.set_cons_zero, List.set_cons_succ]
              refine helds_take (i := 14) (d := some 71) (v := _) (by assumption) rfl rfl (by kernel_rfl) (fun _ _ _ h => h) (yields_cell1 (fun w => by kernel_rfl) (.tmp 70) rfl rfl (fun wx hx => (hx.cell HNL.out).trans c1) rfl) ?_
              try simp only [Act.put, List.setIfInBounds_toArray, List.set_cons_zero, List.set_cons_succ]
              refine helds_take (i := 15) (d := some 72) (v := ?vyd_15) (by assumption) rfl rfl (by kernel_rfl) (fun _ _ _ h => h) ?yyd_15 ?_; case yyd_15 => (refine Or.inl ⟨rfl, fun wx hS => ?_⟩; go_simp; try with_reducible rfl)
              try simp only [Act.put, List.setIfInBounds_toArray, List.set_cons_zero, List.set_cons_succ]
              refine helds_take (i := 16) (d := some 73) (v := ?vyd_16) (by assumption) rfl rfl (by kernel_rfl) (fun _ _ _ h => h) ?yyd_16 ?_; case yyd_16 => (refine Or.inl ⟨rfl, fun wx hS => ?_⟩; go_simp; try with_reducible rfl)
              try simp only [Act.put, List.setIfInBounds_toArray, List.set_cons_zero, List.set_cons_succ]
              refine helds_take (i := 17) (d := some 74) (v := _) (by assumption) rfl rfl (by kernel_rfl) (fun _ _ _ h => h) (yields_sliceS (v := .slice U' q (cu - st)) (.tmp 63) (.tmp 67) (.tmp 73) rfl rfl rfl rfl (by first | rfl | (show Value.int .i64 (IntKind.i64.wrap _) = _; rw [HWK.out])) HSL.out) ?_
              try simp only [Act.put, List.setIfInBounds_toArray, List.set_cons_zero, List.set_cons_succ]
              refine helds_one (i := 2) rfl (by kernel_rfl) rfl (fun K hK => ?_)
              refine wp_lit0D (d := some 59) (e := 5) rfl rfl Try.underlying22 byteInfo ?_
              have hb5 : Below w.heap.size wz (wd.alloc (.cells #[] 5)) := WD.out.alloc SZ.out _
              have G5 := Lib.hid (show wz.grownBy (wd.alloc (.cells #[] 5)) none by rw [← hwd]; exact grown_trans' (grown_drew (World.grownBy.refl _ none)) (grown_alloc _ _ none))
              have N5 := Lib.hid (OwnB.new0 wd wd.heap.size 5 (Nat.le_refl _))
              refine hK.out _ _ (by assumption) (fun _ => ?_)
              clear hK K
              try simp only [Act.put, List.setIfInBounds_toArray, List.set_cons_zero, List.set_cons_succ]
              refine helds_one (i := 18) rfl (by kernel_rfl) rfl (fun K hK => ?_)
              refine wp_appB (d := some 75) byteT rfl (.tmp 59) (.tmp 74) rfl N5.out (RBK.out.below hb5) rfl (by rw [KL.out]; rfl) (by rw [KL.out]; have := KB.out; simp only [List.length_nil]; omega) (Nat.le_of_lt (by rw [World.size_alloc]; exact Nat.lt_succ_self _)) ?_
              intro v6 w6 hown6 hg6 hat6
              obtain ⟨A6, c6, hv6, -, -⟩ := hown6.shape
              rw [List.nil_append, KL.out] at hv6
              subst hv6
              rw [List.nil_append] at hown6
              have hb6 : Below w.heap.size wz w6 := hb5.grown hg6 (Nat.le_trans SZ.out (Nat.le_of_lt (by rw [World.size_alloc]; exact Nat.lt_succ_self _))) (fun k hk => by have := (N5.out.lt k hk).1; have := SZ.out; omega)
              have hwz : wz.heap.size ≤ wd.heap.size := by rw [← hwd]; exact Nat.le_refl _
              have G6 := Lib.hid (show wz.grownBy w6 none from Mod.none (S := fun z => wz.heap.size ≤ z) ((Mod.made G5.out).grown hg6 (fun z hz _ => by have := (N5.out.lt z hz).1; omega)) (fun z hz e => by omega))
              have O6 := Lib.hid (hown6.base_ (Nat.le_trans HSO.out hwz))
              clear hown6 hg6 hat6 hwz
              refine hK.out _ _ (by assumption) (fun _ => ?_)
              clear hK K
              try simp only [Act.put, List.setIfInBounds_toArray, List.set_cons_zero, List.set_cons_succ]
              refine helds_take (i := 19) (d := some 76) (v := ?vyd_18) (by assumption) rfl rfl (by kernel_rfl) (fun _ _ _ h => h) ?yyd_18 ?_; case yyd_18 => (refine Or.inl ⟨rfl, fun wx hS => ?_⟩; go_simp; try with_reducible rfl)
              try simp only [Act.put, List.setIfInBounds_toArray, List.set_cons_zero, List.set_cons_succ]
              refine helds_one (i := 20) rfl (by kernel_rfl) rfl (fun K hK => ?_)
              refine wp_lit1D (d := some 77) (e := 24) (zs := [.int .i64 0, .slice none 0 0]) (p := [.int .i64 (k : Int), .slice A6 q c6]) rfl rfl Try.underlying33 aggF.hi zeroF rfl (by omega) (by omega) rfl ?_
              have hb7 : Below w.heap.size wz (w6.alloc (.cells #[.int .i64 (k : Int), .slice A6 q c6] 24)) := hb6.alloc (Nat.le_trans HSO.out G6.out.size) _
              have N7 := Lib.hid (heap_alloc_new w6 (.cells #[.int .i64 (k : Int), .slice A6 q c6] 24))
              have I7 := Lib.hid (HI.out.made (grown_trans' G6.out (grown_alloc w6 (.cells #[.int .i64 (k : Int), .slice A6 q c6] 24) none)))
              have O7 := Lib.hid (OwnB.none_ O6.out (grown_alloc w6 (.cells #[.int .i64 (k : Int), .slice A6 q c6] 24) none))
              refine hK.out _ _ (by assumption) (fun _ => ?_)
              clear hK K
              try simp only [Act.put, List.setIfInBounds_toArray, List.set_cons_zero, List.set_cons_succ]
              refine helds_one (i := 21) rfl (by kernel_rfl) rfl (fun K hK => ?_)
              refine wp_appFD (d := some 78) (f := ((k : Int), body)) rfl (.tmp 57) (.tmp 77) rfl I7.out.of O7.out (fun _ _ => trivial) (ad := ⟨w6.heap.size, 0, none⟩) (c := 1) (cell_of_row _ _ _ _ _ (0, 0) N7.out) (cell_of_row _ _ _ _ _ (0, 0) N7.out) rfl rfl (by rw [HM1.out]; have := HB.out; omega) I7.out.md.size ?_
              intro v8 w8 o8 g8 a8
              obtain ⟨A8, c8, hv8, -, -⟩ := o8.shape
              have hb8 : Below w.heap.size wz w8 := hb7.grown g8 I7.out.md.size (fun z hz => (I7.out.of.lt z hz).1)
              have I8 := Lib.hid (I7.out.app g8 o8)
              generalize hl8 : List.length (_ ++ [_]) = n8 at hv8
              subst hv8
              have LN8 := Lib.hid hl8
              clear o8 g8 a8 hl8
              refine hK.out _ _ (by assumption) (fun _ => ?_)
              clear hK K
              try simp only [Act.put, List.setIfInBounds_toArray, List.set_cons_zero, List.set_cons_succ]
              refine helds_take (i := 22) (d := some 3) (v := ?vyd_19) (by assumption) rfl rfl (by kernel_rfl) (fun _ _ _ h => h) ?yyd_19 ?_; case yyd_19 => (refine Or.inl ⟨rfl, fun wx hS => ?_⟩; go_simp; try with_reducible rfl)
              try simp only [Act.put, List.setIfInBounds_toArray, List.set_cons_zero, List.set_cons_succ]
              refine held_end (by kernel_rfl) ?_ _
              have P1 := Lib.hid (I8.out.put HLT.out 1 (.int .i64 ((st + q : Nat) : Int)) (rcSent (D k) (st + q)) (by omega) rfl rfl rfl)
              have e1 := I8.out.rx.at_ HLT.out (k := 1) rfl
              have f1 := I8.out.rx.cb.free (k * 9 + 1)
              have e7 := P1.out.rx.at_ HLT.out (k := 7) rfl
              have f7 := P1.out.rx.cb.free (k * 9 + 7)
              have g7 := I8.out.rx.at_ HLT.out (k := 7) rfl
              rw [STE.out] at e1
              rw [CRE.out] at g7
              rw [upd_same] at e7
              rw [show (rcSent (D k) (st + q)).cr = cr from CRE.out] at e7
              have P2 := Lib.hid (P1.out.put HLT.out 7 (.int .i64 ((cr - q : Nat) : Int)) (rcSend (D k) q) (by omega) (by rw [upd_same, ← STE.out, ← CRE.out]; rfl) (by rw [upd_same]; rfl) (by rw [upd_same]; rfl))
              rw [upd_upd] at P2
              have HRL2 := Lib.hid (show RlA (upd DC k (chSend cur q)) (upd D k (rcSend (D k) q)) by have := (HRL.out.upd_ RL2.out k); rwa [upd_upd] at this)
              have LN9 := Lib.hid (show n8 = m1 + 1 by have := LN8.out; rw [List.length_append, HM1.out] at this; simpa using this.symm)
              have HF8 := Lib.hid (show F ++ done.map (fun b => ((k : Int), b)) ++ [((k : Int), body)] = F ++ (done ++ [body]).map (fun b => ((k : Int), b)) by rw [List.map_append, List.append_assoc]; rfl)
              rw [HF8.out] at P2 LN8
              clear c0 c1 c7 hwd P1
              generalize ((st + q : Nat) : Int) = sK at *
              generalize ((cr - q : Nat) : Int) = cK at *
              go_wp2
              go_roundw
              case rel => exact ⟨f', _, chSend cur q, done ++ [body], A8, n8, c8, rfl, P2.out, LN8.out, HRL2.out, FNXT.out, LI.out.send _, by rw [List.append_assoc, ← HBO.out]; exact D1.out, D2.out, by have := LN9.out; have := HB.out; omega⟩
              case measure =>
                have := LN9.out
                have := HB.out
                simp [lenV]
                omega
        · skip
          have e1 : (sends (DC k)).1 = done := by rw [← hd1, sendsF_no hm, List.append_nil]
          have e2 : (sends (DC k)).2 = cur := by rw [← hd2, sendsF_no hm]
          have OE := (outC_eq k e1 e2)
          have c2 := hi.rx.at_ hlt (k := 2) rfl
          have c3 := hi.rx.at_ hlt (k := 3) rfl
          have c5 := hi.rx.at_ hlt (k := 5) rfl
          have c6 := hi.rx.at_ hlt (k := 6) rfl
          have hBr : (D k).rd ≤ 10000000 := by have := hrk.rl; have := (HB0.out k hlt).2; rw [← (hi.wr k hlt).2] at this; omega
          obtain ⟨rd, hrde⟩ : ∃ x, (D k).rd = x := ⟨_, rfl⟩
          obtain ⟨sd, hsde⟩ : ∃ x, (D k).sd = x := ⟨_, rfl⟩
          rw [hrde] at c5 hBr
          rw [hsde] at c6
          have RDE := Lib.hid hrde
          have SDE := Lib.hid hsde
          have hku : IntKind.u8.wrap (k : Int) = (k : Int) := by simp [IntKind.wrap, IntKind.bits, IntKind.signed]; omega
          have HB5 := Lib.hid (show m1 ≤ 5000 by have := HB.out; omega)
          have hmf : ¬ (0 < cur.waits.length ∧ 0 < cur.credit) := fun e => hm ((mayS_iff cur).2 e)
          rw [hwt, CUC0] at hmf
          clear hi hm1 hrl hcf hlim hd1 hd2 hb hm hrk hu hUr hub hwl hst hcr CUC0 e1 e2 hrde hsde
          by_cases hp : st < wl
          · have d1 : decide (st < wl) = true := decide_eq_true hp
            have d2 : decide (0 < cr) = false := decide_eq_false (by omega)
            have d2i : ¬ (0 : Int) < (cr : Int) := by omega
            have heb : ((st : Int) == (wl : Int)) = false := beq_eq_false_iff_ne.2 (by omega)
            have hwz : decide (cur.waits.length = 0) = false := decide_eq_false (by omega)
            clear hmf hwt hsl
            by_cases hrd : sd < rd
            · have hri : sd < rd := hrd
              have dr : decide (sd < rd) = true := decide_eq_true hrd
              have hrd2 : 0 < cur.read := by have := RLC.out.rd; rw [SDE.out, RDE.out] at this; omega
              obtain ⟨rn, hrn0⟩ : ∃ x, rd - sd = x := ⟨_, rfl⟩
              have hrn : cur.read = rn := by have := RLC.out.rd; rw [SDE.out, RDE.out] at this; omega
              have hwr : IntKind.i64.wrap ((rd : Int) - (sd : Int)) = (rn : Int) := by simp [IntKind.wrap, IntKind.bits, IntKind.signed]; omega
              have HRN := Lib.hid (show rn ≤ 1024 by have := LI.out.rm; omega)
              have hwq : IntKind.i64.wrap ((rn : Int) / 256) = (rn : Int) / 256 := by have := HRN.out; simp [IntKind.wrap, IntKind.bits, IntKind.signed]; omega
              clear hrn0
              cases hcl : (D k).cl with
              | false =>
                have CLE := Lib.hid hcl
                rw [hcl] at c2
                clear hcl
                have hme : mustE cur = false := by unfold mustE; rw [RLC.out.cl, CLE.out]; rfl
                rw [hme] at OE
                rw [if_neg (show ¬ (false = true) by decide), if_neg (show ¬ (false = true) by decide)] at OE
                rw [if_pos hrd2, if_pos hrd2] at OE
                clear hme hrd hrd2 hwz hp
                rw [hrn] at OE
                clear hrn
                have OE := Lib.hid OE
                go_wp2
                go_quiet (fail)
                have GN := Lib.hid (show wq.grownBy (wq.drewN nq) none from ⟨rfl, rfl, rfl, Nat.le_refl _, fun _ _ _ => rfl⟩)
                have c0 : (wq.drewN nq).cell? ⟨n, k * 9, none⟩ = some (.slice U wl cu) := c0
                have c1 : (wq.drewN nq).cell? ⟨n, k * 9 + 1, none⟩ = some (.int .i64 st) := c1
                have c2 : (wq.drewN nq).cell? ⟨n, k * 9 + 2, none⟩ = some (.bool false) := c2
                have c3 : (wq.drewN nq).cell? ⟨n, k * 9 + 3, none⟩ = some (.bool (D k).tl) := c3
                have c5 : (wq.drewN nq).cell? ⟨n, k * 9 + 5, none⟩ = some (.int .i64 rd) := c5
                have c6 : (wq.drewN nq).cell? ⟨n, k * 9 + 6, none⟩ = some (.int .i64 sd) := c6
                have HI := Lib.hid (HI.out.made GN.out)
                clear GN
                generalize wq.drewN nq = wy at *
                go_wp2
                go_quiet (fail)
                have GN := Lib.hid (show wy.grownBy (wy.drewN nq) none from ⟨rfl, rfl, rfl, Nat.le_refl _, fun _ _ _ => rfl⟩)
                have c0 : (wy.drewN nq).cell? ⟨n, k * 9, none⟩ = some (.slice U wl cu) := c0
                have c1 : (wy.drewN nq).cell? ⟨n, k * 9 + 1, none⟩ = some (.int .i64 st) := c1
                have c2 : (wy.drewN nq).cell? ⟨n, k * 9 + 2, none⟩ = some (.bool false) := c2
                have c3 : (wy.drewN nq).cell? ⟨n, k * 9 + 3, none⟩ = some (.bool (D k).tl) := c3
                have c5 : (wy.drewN nq).cell? ⟨n, k * 9 + 5, none⟩ = some (.int .i64 rd) := c5
                have c6 : (wy.drewN nq).cell? ⟨n, k * 9 + 6, none⟩ = some (.int .i64 sd) := c6
                have HI := Lib.hid (HI.out.made GN.out)
                clear GN
                generalize wy.drewN nq = wz at *
                go_wp2
                go_quiet (fail)
                have GN := Lib.hid (show wz.grownBy (wz.drewN nq) none from ⟨rfl, rfl, rfl, Nat.le_refl _, fun _ _ _ => rfl⟩)
                have c5 : (wz.drewN nq).cell? ⟨n, k * 9 + 5, none⟩ = some (.int .i64 rd) := c5
                have c6 : (wz.drewN nq).cell? ⟨n, k * 9 + 6, none⟩ = some (.int .i64 sd) := c6
                have HI := Lib.hid (HI.out.made GN.out)
                clear GN
                generalize wz.drewN nq = wx at *
                go_wp2
                go_quiet (fail)
                have GN := Lib.hid (show wx.grownBy (wx.drewN nq) none from ⟨rfl, rfl, rfl, Nat.le_refl _, fun _ _ _ => rfl⟩)
                have c5 : (wx.drewN nq).cell? ⟨n, k * 9 + 5, none⟩ = some (.int .i64 rd) := c5
                have c6 : (wx.drewN nq).cell? ⟨n, k * 9 + 6, none⟩ = some (.int .i64 sd) := c6
                have HI := Lib.hid (HI.out.made GN.out)
                clear GN
                generalize wx.drewN nq = wv at *
                go_wp2_with (first
                  | (at_builtin
                     have g1 : wv.grownBy (wv.alloc (.cells #[.int .u8 1, .int .u8 (k : Int), .int .u8 ((rn : Int) / 256 % 256), .int .u8 ((rn : Int) % 256)] 5)) none := grown_alloc _ _ _
                     have g2 : (wv.alloc (.cells #[.int .u8 1, .int .u8 (k : Int), .int .u8 ((rn : Int) / 256 % 256), .int .u8 ((rn : Int) % 256)] 5)).grownBy ((wv.alloc (.cells #[.int .u8 1, .int .u8 (k : Int), .int .u8 ((rn : Int) / 256 % 256), .int .u8 ((rn : Int) % 256)] 5)).alloc (.cells #[.int .i64 4, .slice (some ⟨wv.heap.size, 0, none⟩) 4 4] 24)) none := grown_alloc _ _ _
                     have L2 := Lib.hid ((HI.out.made g1).made g2)
                     have o2 := OwnB.new4 wv w.heap.size 5 (UInt8.ofNat 1) (UInt8.ofNat k) (UInt8.ofNat (rn / 256)) (UInt8.ofNat (rn % 256)) 1 (k : Int) ((rn : Int) / 256 % 256) ((rn : Int) % 256) (by first | rfl | (simp; done) | (simp; omega)) (by have := HLT.out; simp; omega) (by first | rfl | (simp; done) | (simp; omega)) (by first | rfl | (simp; done) | (simp; omega)) HI.out.md.size
                     have o3 := o2.none_ g2
                     refine wpList_appF rfl (.tmp 146) (.tmp 157) rfl (f := ((4 : Int), ctlB 1 k rn)) L2.out.of o3 (fun _ _ => trivial) (ad := ⟨wv.heap.size + 1, 0, none⟩) (c := 1) (by first | rfl | go_simp) (by first | rfl | go_simp) (by first | rfl | go_simp) (by first | rfl | go_simp) (by have := (show (F ++ done.map (fun b => ((k : Int), b))).length ≤ 100000 by rw [HM1.out]; have := HB5.out; omega); omega) L2.out.md.size ?_
                     intro v8 w8 of8 gr8 _
                     obtain ⟨A8, c8, hv8, -, -⟩ := of8.shape
                     have H8 := Lib.hid (L2.out.app gr8 of8)
                     generalize hl8 : List.length (_ ++ [_]) = n8 at hv8
                     subst hv8
                     have LN8 := Lib.hid hl8
                     have P8 := Lib.hid (H8.out.put HLT.out 6 (.int .i64 (rd : Int)) (rcSaid (D k)) (by omega) (by rw [← RDE.out]; rfl) (by rfl) (by rfl))
                     have e5 := H8.out.rx.at_ HLT.out (k := 5) rfl
                     have e6 := H8.out.rx.at_ HLT.out (k := 6) rfl
                     skip
                     rw [show (D k).rd = rd from RDE.out] at e5
                     rw [show (D k).sd = sd from SDE.out] at e6
                     have f6 := H8.out.rx.cb.free (k * 9 + 6)
                     clear of8 gr8 hl8 g1 g2 o2 o3))
                go_roundw
                case rel =>
                  have hfin := HRL.out.upd_ RLC.out.said k
                  rw [upd_upd] at hfin
                  exact ⟨k + 1, upd D k (rcSaid (D k)), A8, n8, c8, rfl, by go_num, by omega, by rw [EQ.out, OE.out]; have := LN8.out; simpa [List.append_assoc] using this, by rw [EQ.out, OE.out]; have := P8.out; simpa [List.append_assoc] using this, by rw [EQ.out, OE.out]; exact hfin⟩
                case measure => simp [intOf]; omega
              | true =>
                have CLE := Lib.hid hcl
                rw [hcl] at c2
                clear hcl
                cases htl : (D k).tl with
                | true =>
                  have TLE := Lib.hid htl
                  rw [htl] at c3
                  clear htl
                  have hme : mustE cur = false := by unfold mustE; rw [RLC.out.cl, CLE.out, RLC.out.tl, TLE.out]; rfl
                  rw [hme] at OE
                  rw [if_neg (show ¬ (false = true) by decide), if_neg (show ¬ (false = true) by decide)] at OE
                  rw [if_pos hrd2, if_pos hrd2] at OE
                  clear hme hrd hrd2 hwz hp
                  rw [hrn] at OE
                  clear hrn
                  have OE := Lib.hid OE
                  go_wp2
                  go_quiet (fail)
                  have GN := Lib.hid (show wq.grownBy (wq.drewN nq) none from ⟨rfl, rfl, rfl, Nat.le_refl _, fun _ _ _ => rfl⟩)
                  have c0 : (wq.drewN nq).cell? ⟨n, k * 9, none⟩ = some (.slice U wl cu) := c0
                  have c1 : (wq.drewN nq).cell? ⟨n, k * 9 + 1, none⟩ = some (.int .i64 st) := c1
                  have c2 : (wq.drewN nq).cell? ⟨n, k * 9 + 2, none⟩ = some (.bool true) := c2
                  have c3 : (wq.drewN nq).cell? ⟨n, k * 9 + 3, none⟩ = some (.bool true) := c3
                  have c5 : (wq.drewN nq).cell? ⟨n, k * 9 + 5, none⟩ = some (.int .i64 rd) := c5
                  have c6 : (wq.drewN nq).cell? ⟨n, k * 9 + 6, none⟩ = some (.int .i64 sd) := c6
                  have HI := Lib.hid (HI.out.made GN.out)
                  clear GN
                  generalize wq.drewN nq = wy at *
                  go_wp2
                  go_quiet (fail)
                  have GN := Lib.hid (show wy.grownBy (wy.drewN nq) none from ⟨rfl, rfl, rfl, Nat.le_refl _, fun _ _ _ => rfl⟩)
                  have c0 : (wy.drewN nq).cell? ⟨n, k * 9, none⟩ = some (.slice U wl cu) := c0
                  have c1 : (wy.drewN nq).cell? ⟨n, k * 9 + 1, none⟩ = some (.int .i64 st) := c1
                  have c2 : (wy.drewN nq).cell? ⟨n, k * 9 + 2, none⟩ = some (.bool true) := c2
                  have c3 : (wy.drewN nq).cell? ⟨n, k * 9 + 3, none⟩ = some (.bool true) := c3
                  have c5 : (wy.drewN nq).cell? ⟨n, k * 9 + 5, none⟩ = some (.int .i64 rd) := c5
                  have c6 : (wy.drewN nq).cell? ⟨n, k * 9 + 6, none⟩ = some (.int .i64 sd) := c6
                  have HI := Lib.hid (HI.out.made GN.out)
                  clear GN
                  generalize wy.drewN nq = wz at *
                  go_wp2
                  go_quiet (fail)
                  have GN := Lib.hid (show wz.grownBy (wz.drewN nq) none from ⟨rfl, rfl, rfl, Nat.le_refl _, fun _ _ _ => rfl⟩)
                  have c5 : (wz.drewN nq).cell? ⟨n, k * 9 + 5, none⟩ = some (.int .i64 rd) := c5
                  have c6 : (wz.drewN nq).cell? ⟨n, k * 9 + 6, none⟩ = some (.int .i64 sd) := c6
                  have HI := Lib.hid (HI.out.made GN.out)
                  clear GN
                  generalize wz.drewN nq = wx at *
                  go_wp2
                  go_quiet (fail)
                  have GN := Lib.hid (show wx.grownBy (wx.drewN nq) none from ⟨rfl, rfl, rfl, Nat.le_refl _, fun _ _ _ => rfl⟩)
                  have c5 : (wx.drewN nq).cell? ⟨n, k * 9 + 5, none⟩ = some (.int .i64 rd) := c5
                  have c6 : (wx.drewN nq).cell? ⟨n, k * 9 + 6, none⟩ = some (.int .i64 sd) := c6
                  have HI := Lib.hid (HI.out.made GN.out)
                  clear GN
                  generalize wx.drewN nq = wv at *
                  go_wp2_with (first
                    | (at_builtin
                       have g1 : wv.grownBy (wv.alloc (.cells #[.int .u8 1, .int .u8 (k : Int), .int .u8 ((rn : Int) / 256 % 256), .int .u8 ((rn : Int) % 256)] 5)) none := grown_alloc _ _ _
                       have g2 : (wv.alloc (.cells #[.int .u8 1, .int .u8 (k : Int), .int .u8 ((rn : Int) / 256 % 256), .int .u8 ((rn : Int) % 256)] 5)).grownBy ((wv.alloc (.cells #[.int .u8 1, .int .u8 (k : Int), .int .u8 ((rn : Int) / 256 % 256), .int .u8 ((rn : Int) % 256)] 5)).alloc (.cells #[.int .i64 4, .slice (some ⟨wv.heap.size, 0, none⟩) 4 4] 24)) none := grown_alloc _ _ _
                       have L2 := Lib.hid ((HI.out.made g1).made g2)
                       have o2 := OwnB.new4 wv w.heap.size 5 (UInt8.ofNat 1) (UInt8.ofNat k) (UInt8.ofNat (rn / 256)) (UInt8.ofNat (rn % 256)) 1 (k : Int) ((rn : Int) / 256 % 256) ((rn : Int) % 256) (by first | rfl | (simp; done) | (simp; omega)) (by have := HLT.out; simp; omega) (by first | rfl | (simp; done) | (simp; omega)) (by first | rfl | (simp; done) | (simp; omega)) HI.out.md.size
                       have o3 := o2.none_ g2
                       refine wpList_appF rfl (.tmp 146) (.tmp 157) rfl (f := ((4 : Int), ctlB 1 k rn)) L2.out.of o3 (fun _ _ => trivial) (ad := ⟨wv.heap.size + 1, 0, none⟩) (c := 1) (by first | rfl | go_simp) (by first | rfl | go_simp) (by first | rfl | go_simp) (by first | rfl | go_simp) (by have := (show (F ++ done.map (fun b => ((k : Int), b))).length ≤ 100000 by rw [HM1.out]; have := HB5.out; omega); omega) L2.out.md.size ?_
                       intro v8 w8 of8 gr8 _
                       obtain ⟨A8, c8, hv8, -, -⟩ := of8.shape
                       have H8 := Lib.hid (L2.out.app gr8 of8)
                       generalize hl8 : List.length (_ ++ [_]) = n8 at hv8
                       subst hv8
                       have LN8 := Lib.hid hl8
                       have P8 := Lib.hid (H8.out.put HLT.out 6 (.int .i64 (rd : Int)) (rcSaid (D k)) (by omega) (by rw [← RDE.out]; rfl) (by rfl) (by rfl))
                       have e5 := H8.out.rx.at_ HLT.out (k := 5) rfl
                       have e6 := H8.out.rx.at_ HLT.out (k := 6) rfl
                       skip
                       rw [show (D k).rd = rd from RDE.out] at e5
                       rw [show (D k).sd = sd from SDE.out] at e6
                       have f6 := H8.out.rx.cb.free (k * 9 + 6)
                       clear of8 gr8 hl8 g1 g2 o2 o3))
                  go_roundw
                  case rel =>
                    have hfin := HRL.out.upd_ RLC.out.said k
                    rw [upd_upd] at hfin
                    exact ⟨k + 1, upd D k (rcSaid (D k)), A8, n8, c8, rfl, by go_num, by omega, by rw [EQ.out, OE.out]; have := LN8.out; simpa [List.append_assoc] using this, by rw [EQ.out, OE.out]; have := P8.out; simpa [List.append_assoc] using this, by rw [EQ.out, OE.out]; exact hfin⟩
                  case measure => simp [intOf]; omega
                | false =>
                  have TLE := Lib.hid htl
                  rw [htl] at c3
                  clear htl
                  have hme : mustE cur = false := by unfold mustE; rw [RLC.out.cl, CLE.out, RLC.out.tl, TLE.out, hwz]; rfl
                  rw [hme] at OE
                  rw [if_neg (show ¬ (false = true) by decide), if_neg (show ¬ (false = true) by decide)] at OE
                  rw [if_pos hrd2, if_pos hrd2] at OE
                  clear hme hrd hrd2 hwz hp
                  rw [hrn] at OE
                  clear hrn
                  have OE := Lib.hid OE
                  go_wp2
                  go_quiet (fail)
                  have GN := Lib.hid (show wq.grownBy (wq.drewN nq) none from ⟨rfl, rfl, rfl, Nat.le_refl _, fun _ _ _ => rfl⟩)
                  have c0 : (wq.drewN nq).cell? ⟨n, k * 9, none⟩ = some (.slice U wl cu) := c0
                  have c1 : (wq.drewN nq).cell? ⟨n, k * 9 + 1, none⟩ = some (.int .i64 st) := c1
                  have c2 : (wq.drewN nq).cell? ⟨n, k * 9 + 2, none⟩ = some (.bool true) := c2
                  have c3 : (wq.drewN nq).cell? ⟨n, k * 9 + 3, none⟩ = some (.bool false) := c3
                  have c5 : (wq.drewN nq).cell? ⟨n, k * 9 + 5, none⟩ = some (.int .i64 rd) := c5
                  have c6 : (wq.drewN nq).cell? ⟨n, k * 9 + 6, none⟩ = some (.int .i64 sd) := c6
                  have HI := Lib.hid (HI.out.made GN.out)
                  clear GN
                  generalize wq.drewN nq = wy at *
                  go_wp2
                  go_quiet (fail)
                  have GN := Lib.hid (show wy.grownBy (wy.drewN nq) none from ⟨rfl, rfl, rfl, Nat.le_refl _, fun _ _ _ => rfl⟩)
                  have c0 : (wy.drewN nq).cell? ⟨n, k * 9, none⟩ = some (.slice U wl cu) := c0
                  have c1 : (wy.drewN nq).cell? ⟨n, k * 9 + 1, none⟩ = some (.int .i64 st) := c1
                  have c2 : (wy.drewN nq).cell? ⟨n, k * 9 + 2, none⟩ = some (.bool true) := c2
                  have c3 : (wy.drewN nq).cell? ⟨n, k * 9 + 3, none⟩ = some (.bool false) := c3
                  have c5 : (wy.drewN nq).cell? ⟨n, k * 9 + 5, none⟩ = some (.int .i64 rd) := c5
                  have c6 : (wy.drewN nq).cell? ⟨n, k * 9 + 6, none⟩ = some (.int .i64 sd) := c6
                  have HI := Lib.hid (HI.out.made GN.out)
                  clear GN
                  generalize wy.drewN nq = wz at *
                  go_wp2
                  go_quiet (fail)
                  have GN := Lib.hid (show wz.grownBy (wz.drewN nq) none from ⟨rfl, rfl, rfl, Nat.le_refl _, fun _ _ _ => rfl⟩)
                  have c5 : (wz.drewN nq).cell? ⟨n, k * 9 + 5, none⟩ = some (.int .i64 rd) := c5
                  have c6 : (wz.drewN nq).cell? ⟨n, k * 9 + 6, none⟩ = some (.int .i64 sd) := c6
                  have HI := Lib.hid (HI.out.made GN.out)
                  clear GN
                  generalize wz.drewN nq = wx at *
                  go_wp2
                  go_quiet (fail)
                  have GN := Lib.hid (show wx.grownBy (wx.drewN nq) none from ⟨rfl, rfl, rfl, Nat.le_refl _, fun _ _ _ => rfl⟩)
                  have c5 : (wx.drewN nq).cell? ⟨n, k * 9 + 5, none⟩ = some (.int .i64 rd) := c5
                  have c6 : (wx.drewN nq).cell? ⟨n, k * 9 + 6, none⟩ = some (.int .i64 sd) := c6
                  have HI := Lib.hid (HI.out.made GN.out)
                  clear GN
                  generalize wx.drewN nq = wv at *
                  go_wp2_with (first
                    | (at_builtin
                       have g1 : wv.grownBy (wv.alloc (.cells #[.int .u8 1, .int .u8 (k : Int), .int .u8 ((rn : Int) / 256 % 256), .int .u8 ((rn : Int) % 256)] 5)) none := grown_alloc _ _ _
                       have g2 : (wv.alloc (.cells #[.int .u8 1, .int .u8 (k : Int), .int .u8 ((rn : Int) / 256 % 256), .int .u8 ((rn : Int) % 256)] 5)).grownBy ((wv.alloc (.cells #[.int .u8 1, .int .u8 (k : Int), .int .u8 ((rn : Int) / 256 % 256), .int .u8 ((rn : Int) % 256)] 5)).alloc (.cells #[.int .i64 4, .slice (some ⟨wv.heap.size, 0, none⟩) 4 4] 24)) none := grown_alloc _ _ _
                       have L2 := Lib.hid ((HI.out.made g1).made g2)
                       have o2 := OwnB.new4 wv w.heap.size 5 (UInt8.ofNat 1) (UInt8.ofNat k) (UInt8.ofNat (rn / 256)) (UInt8.ofNat (rn % 256)) 1 (k : Int) ((rn : Int) / 256 % 256) ((rn : Int) % 256) (by first | rfl | (simp; done) | (simp; omega)) (by have := HLT.out; simp; omega) (by first | rfl | (simp; done) | (simp; omega)) (by first | rfl | (simp; done) | (simp; omega)) HI.out.md.size
                       have o3 := o2.none_ g2
                       refine wpList_appF rfl (.tmp 146) (.tmp 157) rfl (f := ((4 : Int), ctlB 1 k rn)) L2.out.of o3 (fun _ _ => trivial) (ad := ⟨wv.heap.size + 1, 0, none⟩) (c := 1) (by first | rfl | go_simp) (by first | rfl | go_simp) (by first | rfl | go_simp) (by first | rfl | go_simp) (by have := (show (F ++ done.map (fun b => ((k : Int), b))).length ≤ 100000 by rw [HM1.out]; have := HB5.out; omega); omega) L2.out.md.size ?_
                       intro v8 w8 of8 gr8 _
                       obtain ⟨A8, c8, hv8, -, -⟩ := of8.shape
                       have H8 := Lib.hid (L2.out.app gr8 of8)
                       generalize hl8 : List.length (_ ++ [_]) = n8 at hv8
                       subst hv8
                       have LN8 := Lib.hid hl8
                       have P8 := Lib.hid (H8.out.put HLT.out 6 (.int .i64 (rd : Int)) (rcSaid (D k)) (by omega) (by rw [← RDE.out]; rfl) (by rfl) (by rfl))
                       have e5 := H8.out.rx.at_ HLT.out (k := 5) rfl
                       have e6 := H8.out.rx.at_ HLT.out (k := 6) rfl
                       skip
                       rw [show (D k).rd = rd from RDE.out] at e5
                       rw [show (D k).sd = sd from SDE.out] at e6
                       have f6 := H8.out.rx.cb.free (k * 9 + 6)
                       clear of8 gr8 hl8 g1 g2 o2 o3))
                  go_roundw
                  case rel =>
                    have hfin := HRL.out.upd_ RLC.out.said k
                    rw [upd_upd] at hfin
                    exact ⟨k + 1, upd D k (rcSaid (D k)), A8, n8, c8, rfl, by go_num, by omega, by rw [EQ.out, OE.out]; have := LN8.out; simpa [List.append_assoc] using this, by rw [EQ.out, OE.out]; have := P8.out; simpa [List.append_assoc] using this, by rw [EQ.out, OE.out]; exact hfin⟩
                  case measure => simp [intOf]; omega
            · have dr : decide (sd < rd) = false := decide_eq_false hrd
              have hrd2 : ¬ 0 < cur.read := by have := RLC.out.rd; rw [SDE.out, RDE.out] at this; omega
              cases hcl : (D k).cl with
              | false =>
                have CLE := Lib.hid hcl
                rw [hcl] at c2
                clear hcl
                have hme : mustE cur = false := by unfold mustE; rw [RLC.out.cl, CLE.out]; rfl
                rw [hme] at OE
                rw [if_neg (show ¬ (false = true) by decide), if_neg (show ¬ (false = true) by decide)] at OE
                rw [if_neg hrd2, if_neg hrd2] at OE
                clear hme hrd hrd2 hwz hp
                have OE := Lib.hid OE
                go_wp2
                go_quiet (fail)
                have GN := Lib.hid (show wq.grownBy (wq.drewN nq) none from ⟨rfl, rfl, rfl, Nat.le_refl _, fun _ _ _ => rfl⟩)
                have c0 : (wq.drewN nq).cell? ⟨n, k * 9, none⟩ = some (.slice U wl cu) := c0
                have c1 : (wq.drewN nq).cell? ⟨n, k * 9 + 1, none⟩ = some (.int .i64 st) := c1
                have c2 : (wq.drewN nq).cell? ⟨n, k * 9 + 2, none⟩ = some (.bool false) := c2
                have c3 : (wq.drewN nq).cell? ⟨n, k * 9 + 3, none⟩ = some (.bool (D k).tl) := c3
                have c5 : (wq.drewN nq).cell? ⟨n, k * 9 + 5, none⟩ = some (.int .i64 rd) := c5
                have c6 : (wq.drewN nq).cell? ⟨n, k * 9 + 6, none⟩ = some (.int .i64 sd) := c6
                have HI := Lib.hid (HI.out.made GN.out)
                clear GN
                generalize wq.drewN nq = wy at *
                go_wp2
                go_quiet (fail)
                have GN := Lib.hid (show wy.grownBy (wy.drewN nq) none from ⟨rfl, rfl, rfl, Nat.le_refl _, fun _ _ _ => rfl⟩)
                have c0 : (wy.drewN nq).cell? ⟨n, k * 9, none⟩ = some (.slice U wl cu) := c0
                have c1 : (wy.drewN nq).cell? ⟨n, k * 9 + 1, none⟩ = some (.int .i64 st) := c1
                have c2 : (wy.drewN nq).cell? ⟨n, k * 9 + 2, none⟩ = some (.bool false) := c2
                have c3 : (wy.drewN nq).cell? ⟨n, k * 9 + 3, none⟩ = some (.bool (D k).tl) := c3
                have c5 : (wy.drewN nq).cell? ⟨n, k * 9 + 5, none⟩ = some (.int .i64 rd) := c5
                have c6 : (wy.drewN nq).cell? ⟨n, k * 9 + 6, none⟩ = some (.int .i64 sd) := c6
                have HI := Lib.hid (HI.out.made GN.out)
                clear GN
                generalize wy.drewN nq = wz at *
                go_wp2
                go_quiet (fail)
                have GN := Lib.hid (show wz.grownBy (wz.drewN nq) none from ⟨rfl, rfl, rfl, Nat.le_refl _, fun _ _ _ => rfl⟩)
                have c5 : (wz.drewN nq).cell? ⟨n, k * 9 + 5, none⟩ = some (.int .i64 rd) := c5
                have c6 : (wz.drewN nq).cell? ⟨n, k * 9 + 6, none⟩ = some (.int .i64 sd) := c6
                have HI := Lib.hid (HI.out.made GN.out)
                clear GN
                generalize wz.drewN nq = wx at *
                go_wp2
                go_roundw
                case rel =>
                  have hfin := HRL.out.upd_ RLC.out k
                  rw [upd_upd, upd_self] at hfin
                  exact ⟨k + 1, D, A1, m1, c1', rfl, by go_num, by omega, by rw [EQ.out, OE.out]; have := HM1.out; simpa [List.append_assoc] using this, by rw [EQ.out, OE.out]; have := HI.out; simpa [List.append_assoc] using this, by rw [EQ.out, OE.out]; exact hfin⟩
                case measure => simp [intOf]; omega
              | true =>
                have CLE := Lib.hid hcl
                rw [hcl] at c2
                clear hcl
                cases htl : (D k).tl with
                | true =>
                  have TLE := Lib.hid htl
                  rw [htl] at c3
                  clear htl
                  have hme : mustE cur = false := by unfold mustE; rw [RLC.out.cl, CLE.out, RLC.out.tl, TLE.out]; rfl
                  rw [hme] at OE
                  rw [if_neg (show ¬ (false = true) by decide), if_neg (show ¬ (false = true) by decide)] at OE
                  rw [if_neg hrd2, if_neg hrd2] at OE
                  clear hme hrd hrd2 hwz hp
                  have OE := Lib.hid OE
                  go_wp2
                  go_quiet (fail)
                  have GN := Lib.hid (show wq.grownBy (wq.drewN nq) none from ⟨rfl, rfl, rfl, Nat.le_refl _, fun _ _ _ => rfl⟩)
                  have c0 : (wq.drewN nq).cell? ⟨n, k * 9, none⟩ = some (.slice U wl cu) := c0
                  have c1 : (wq.drewN nq).cell? ⟨n, k * 9 + 1, none⟩ = some (.int .i64 st) := c1
                  have c2 : (wq.drewN nq).cell? ⟨n, k * 9 + 2, none⟩ = some (.bool true) := c2
                  have c3 : (wq.drewN nq).cell? ⟨n, k * 9 + 3, none⟩ = some (.bool true) := c3
                  have c5 : (wq.drewN nq).cell? ⟨n, k * 9 + 5, none⟩ = some (.int .i64 rd) := c5
                  have c6 : (wq.drewN nq).cell? ⟨n, k * 9 + 6, none⟩ = some (.int .i64 sd) := c6
                  have HI := Lib.hid (HI.out.made GN.out)
                  clear GN
                  generalize wq.drewN nq = wy at *
                  go_wp2
                  go_quiet (fail)
                  have GN := Lib.hid (show wy.grownBy (wy.drewN nq) none from ⟨rfl, rfl, rfl, Nat.le_refl _, fun _ _ _ => rfl⟩)
                  have c0 : (wy.drewN nq).cell? ⟨n, k * 9, none⟩ = some (.slice U wl cu) := c0
                  have c1 : (wy.drewN nq).cell? ⟨n, k * 9 + 1, none⟩ = some (.int .i64 st) := c1
                  have c2 : (wy.drewN nq).cell? ⟨n, k * 9 + 2, none⟩ = some (.bool true) := c2
                  have c3 : (wy.drewN nq).cell? ⟨n, k * 9 + 3, none⟩ = some (.bool true) := c3
                  have c5 : (wy.drewN nq).cell? ⟨n, k * 9 + 5, none⟩ = some (.int .i64 rd) := c5
                  have c6 : (wy.drewN nq).cell? ⟨n, k * 9 + 6, none⟩ = some (.int .i64 sd) := c6
                  have HI := Lib.hid (HI.out.made GN.out)
                  clear GN
                  generalize wy.drewN nq = wz at *
                  go_wp2
                  go_quiet (fail)
                  have GN := Lib.hid (show wz.grownBy (wz.drewN nq) none from ⟨rfl, rfl, rfl, Nat.le_refl _, fun _ _ _ => rfl⟩)
                  have c5 : (wz.drewN nq).cell? ⟨n, k * 9 + 5, none⟩ = some (.int .i64 rd) := c5
                  have c6 : (wz.drewN nq).cell? ⟨n, k * 9 + 6, none⟩ = some (.int .i64 sd) := c6
                  have HI := Lib.hid (HI.out.made GN.out)
                  clear GN
                  generalize wz.drewN nq = wx at *
                  go_wp2
                  go_roundw
                  case rel =>
                    have hfin := HRL.out.upd_ RLC.out k
                    rw [upd_upd, upd_self] at hfin
                    exact ⟨k + 1, D, A1, m1, c1', rfl, by go_num, by omega, by rw [EQ.out, OE.out]; have := HM1.out; simpa [List.append_assoc] using this, by rw [EQ.out, OE.out]; have := HI.out; simpa [List.append_assoc] using this, by rw [EQ.out, OE.out]; exact hfin⟩
                  case measure => simp [intOf]; omega
                | false =>
                  have TLE := Lib.hid htl
                  rw [htl] at c3
                  clear htl
                  have hme : mustE cur = false := by unfold mustE; rw [RLC.out.cl, CLE.out, RLC.out.tl, TLE.out, hwz]; rfl
                  rw [hme] at OE
                  rw [if_neg (show ¬ (false = true) by decide), if_neg (show ¬ (false = true) by decide)] at OE
                  rw [if_neg hrd2, if_neg hrd2] at OE
                  clear hme hrd hrd2 hwz hp
                  have OE := Lib.hid OE
                  go_wp2
                  go_quiet (fail)
                  have GN := Lib.hid (show wq.grownBy (wq.drewN nq) none from ⟨rfl, rfl, rfl, Nat.le_refl _, fun _ _ _ => rfl⟩)
                  have c0 : (wq.drewN nq).cell? ⟨n, k * 9, none⟩ = some (.slice U wl cu) := c0
                  have c1 : (wq.drewN nq).cell? ⟨n, k * 9 + 1, none⟩ = some (.int .i64 st) := c1
                  have c2 : (wq.drewN nq).cell? ⟨n, k * 9 + 2, none⟩ = some (.bool true) := c2
                  have c3 : (wq.drewN nq).cell? ⟨n, k * 9 + 3, none⟩ = some (.bool false) := c3
                  have c5 : (wq.drewN nq).cell? ⟨n, k * 9 + 5, none⟩ = some (.int .i64 rd) := c5
                  have c6 : (wq.drewN nq).cell? ⟨n, k * 9 + 6, none⟩ = some (.int .i64 sd) := c6
                  have HI := Lib.hid (HI.out.made GN.out)
                  clear GN
                  generalize wq.drewN nq = wy at *
                  go_wp2
                  go_quiet (fail)
                  have GN := Lib.hid (show wy.grownBy (wy.drewN nq) none from ⟨rfl, rfl, rfl, Nat.le_refl _, fun _ _ _ => rfl⟩)
                  have c0 : (wy.drewN nq).cell? ⟨n, k * 9, none⟩ = some (.slice U wl cu) := c0
                  have c1 : (wy.drewN nq).cell? ⟨n, k * 9 + 1, none⟩ = some (.int .i64 st) := c1
                  have c2 : (wy.drewN nq).cell? ⟨n, k * 9 + 2, none⟩ = some (.bool true) := c2
                  have c3 : (wy.drewN nq).cell? ⟨n, k * 9 + 3, none⟩ = some (.bool false) := c3
                  have c5 : (wy.drewN nq).cell? ⟨n, k * 9 + 5, none⟩ = some (.int .i64 rd) := c5
                  have c6 : (wy.drewN nq).cell? ⟨n, k * 9 + 6, none⟩ = some (.int .i64 sd) := c6
                  have HI := Lib.hid (HI.out.made GN.out)
                  clear GN
                  generalize wy.drewN nq = wz at *
                  go_wp2
                  go_quiet (fail)
                  have GN := Lib.hid (show wz.grownBy (wz.drewN nq) none from ⟨rfl, rfl, rfl, Nat.le_refl _, fun _ _ _ => rfl⟩)
                  have c5 : (wz.drewN nq).cell? ⟨n, k * 9 + 5, none⟩ = some (.int .i64 rd) := c5
                  have c6 : (wz.drewN nq).cell? ⟨n, k * 9 + 6, none⟩ = some (.int .i64 sd) := c6
                  have HI := Lib.hid (HI.out.made GN.out)
                  clear GN
                  generalize wz.drewN nq = wx at *
                  go_wp2
                  go_roundw
                  case rel =>
                    have hfin := HRL.out.upd_ RLC.out k
                    rw [upd_upd, upd_self] at hfin
                    exact ⟨k + 1, D, A1, m1, c1', rfl, by go_num, by omega, by rw [EQ.out, OE.out]; have := HM1.out; simpa [List.append_assoc] using this, by rw [EQ.out, OE.out]; have := HI.out; simpa [List.append_assoc] using this, by rw [EQ.out, OE.out]; exact hfin⟩
                  case measure => simp [intOf]; omega
          · obtain rfl : st = wl := by omega
            have hwz : decide (cur.waits.length = 0) = true := decide_eq_true (by omega)
            clear hmf hwt hsl hp
            by_cases hrd : sd < rd
            · have hri : sd < rd := hrd
              have dr : decide (sd < rd) = true := decide_eq_true hrd
              have hrd2 : 0 < cur.read := by have := RLC.out.rd; rw [SDE.out, RDE.out] at this; omega
              obtain ⟨rn, hrn0⟩ : ∃ x, rd - sd = x := ⟨_, rfl⟩
              have hrn : cur.read = rn := by have := RLC.out.rd; rw [SDE.out, RDE.out] at this; omega
              have hwr : IntKind.i64.wrap ((rd : Int) - (sd : Int)) = (rn : Int) := by simp [IntKind.wrap, IntKind.bits, IntKind.signed]; omega
              have HRN := Lib.hid (show rn ≤ 1024 by have := LI.out.rm; omega)
              have hwq : IntKind.i64.wrap ((rn : Int) / 256) = (rn : Int) / 256 := by have := HRN.out; simp [IntKind.wrap, IntKind.bits, IntKind.signed]; omega
              clear hrn0
              cases hcl : (D k).cl with
              | false =>
                have CLE := Lib.hid hcl
                rw [hcl] at c2
                clear hcl
                have hme : mustE cur = false := by unfold mustE; rw [RLC.out.cl, CLE.out]; rfl
                rw [hme] at OE
                rw [if_neg (show ¬ (false = true) by decide), if_neg (show ¬ (false = true) by decide)] at OE
                rw [if_pos hrd2, if_pos hrd2] at OE
                clear hme hrd hrd2 hwz
                rw [hrn] at OE
                clear hrn
                have OE := Lib.hid OE
                go_wp2
                go_quiet (fail)
                have GN := Lib.hid (show wq.grownBy (wq.drewN nq) none from ⟨rfl, rfl, rfl, Nat.le_refl _, fun _ _ _ => rfl⟩)
                have c0 : (wq.drewN nq).cell? ⟨n, k * 9, none⟩ = some (.slice U st cu) := c0
                have c1 : (wq.drewN nq).cell? ⟨n, k * 9 + 1, none⟩ = some (.int .i64 st) := c1
                have c2 : (wq.drewN nq).cell? ⟨n, k * 9 + 2, none⟩ = some (.bool false) := c2
                have c3 : (wq.drewN nq).cell? ⟨n, k * 9 + 3, none⟩ = some (.bool (D k).tl) := c3
                have c5 : (wq.drewN nq).cell? ⟨n, k * 9 + 5, none⟩ = some (.int .i64 rd) := c5
                have c6 : (wq.drewN nq).cell? ⟨n, k * 9 + 6, none⟩ = some (.int .i64 sd) := c6
                have HI := Lib.hid (HI.out.made GN.out)
                clear GN
                generalize wq.drewN nq = wy at *
                go_wp2
                go_quiet (fail)
                have GN := Lib.hid (show wy.grownBy (wy.drewN nq) none from ⟨rfl, rfl, rfl, Nat.le_refl _, fun _ _ _ => rfl⟩)
                have c0 : (wy.drewN nq).cell? ⟨n, k * 9, none⟩ = some (.slice U st cu) := c0
                have c1 : (wy.drewN nq).cell? ⟨n, k * 9 + 1, none⟩ = some (.int .i64 st) := c1
                have c2 : (wy.drewN nq).cell? ⟨n, k * 9 + 2, none⟩ = some (.bool false) := c2
                have c3 : (wy.drewN nq).cell? ⟨n, k * 9 + 3, none⟩ = some (.bool (D k).tl) := c3
                have c5 : (wy.drewN nq).cell? ⟨n, k * 9 + 5, none⟩ = some (.int .i64 rd) := c5
                have c6 : (wy.drewN nq).cell? ⟨n, k * 9 + 6, none⟩ = some (.int .i64 sd) := c6
                have HI := Lib.hid (HI.out.made GN.out)
                clear GN
                generalize wy.drewN nq = wz at *
                go_wp2
                go_quiet (fail)
                have GN := Lib.hid (show wz.grownBy (wz.drewN nq) none from ⟨rfl, rfl, rfl, Nat.le_refl _, fun _ _ _ => rfl⟩)
                have c5 : (wz.drewN nq).cell? ⟨n, k * 9 + 5, none⟩ = some (.int .i64 rd) := c5
                have c6 : (wz.drewN nq).cell? ⟨n, k * 9 + 6, none⟩ = some (.int .i64 sd) := c6
                have HI := Lib.hid (HI.out.made GN.out)
                clear GN
                generalize wz.drewN nq = wx at *
                go_wp2
                go_quiet (fail)
                have GN := Lib.hid (show wx.grownBy (wx.drewN nq) none from ⟨rfl, rfl, rfl, Nat.le_refl _, fun _ _ _ => rfl⟩)
                have c5 : (wx.drewN nq).cell? ⟨n, k * 9 + 5, none⟩ = some (.int .i64 rd) := c5
                have c6 : (wx.drewN nq).cell? ⟨n, k * 9 + 6, none⟩ = some (.int .i64 sd) := c6
                have HI := Lib.hid (HI.out.made GN.out)
                clear GN
                generalize wx.drewN nq = wv at *
                go_wp2_with (first
                  | (at_builtin
                     have g1 : wv.grownBy (wv.alloc (.cells #[.int .u8 1, .int .u8 (k : Int), .int .u8 ((rn : Int) / 256 % 256), .int .u8 ((rn : Int) % 256)] 5)) none := grown_alloc _ _ _
                     have g2 : (wv.alloc (.cells #[.int .u8 1, .int .u8 (k : Int), .int .u8 ((rn : Int) / 256 % 256), .int .u8 ((rn : Int) % 256)] 5)).grownBy ((wv.alloc (.cells #[.int .u8 1, .int .u8 (k : Int), .int .u8 ((rn : Int) / 256 % 256), .int .u8 ((rn : Int) % 256)] 5)).alloc (.cells #[.int .i64 4, .slice (some ⟨wv.heap.size, 0, none⟩) 4 4] 24)) none := grown_alloc _ _ _
                     have L2 := Lib.hid ((HI.out.made g1).made g2)
                     have o2 := OwnB.new4 wv w.heap.size 5 (UInt8.ofNat 1) (UInt8.ofNat k) (UInt8.ofNat (rn / 256)) (UInt8.ofNat (rn % 256)) 1 (k : Int) ((rn : Int) / 256 % 256) ((rn : Int) % 256) (by first | rfl | (simp; done) | (simp; omega)) (by have := HLT.out; simp; omega) (by first | rfl | (simp; done) | (simp; omega)) (by first | rfl | (simp; done) | (simp; omega)) HI.out.md.size
                     have o3 := o2.none_ g2
                     refine wpList_appF rfl (.tmp 146) (.tmp 157) rfl (f := ((4 : Int), ctlB 1 k rn)) L2.out.of o3 (fun _ _ => trivial) (ad := ⟨wv.heap.size + 1, 0, none⟩) (c := 1) (by first | rfl | go_simp) (by first | rfl | go_simp) (by first | rfl | go_simp) (by first | rfl | go_simp) (by have := (show (F ++ done.map (fun b => ((k : Int), b))).length ≤ 100000 by rw [HM1.out]; have := HB5.out; omega); omega) L2.out.md.size ?_
                     intro v8 w8 of8 gr8 _
                     obtain ⟨A8, c8, hv8, -, -⟩ := of8.shape
                     have H8 := Lib.hid (L2.out.app gr8 of8)
                     generalize hl8 : List.length (_ ++ [_]) = n8 at hv8
                     subst hv8
                     have LN8 := Lib.hid hl8
                     have P8 := Lib.hid (H8.out.put HLT.out 6 (.int .i64 (rd : Int)) (rcSaid (D k)) (by omega) (by rw [← RDE.out]; rfl) (by rfl) (by rfl))
                     have e5 := H8.out.rx.at_ HLT.out (k := 5) rfl
                     have e6 := H8.out.rx.at_ HLT.out (k := 6) rfl
                     skip
                     rw [show (D k).rd = rd from RDE.out] at e5
                     rw [show (D k).sd = sd from SDE.out] at e6
                     have f6 := H8.out.rx.cb.free (k * 9 + 6)
                     clear of8 gr8 hl8 g1 g2 o2 o3))
                go_roundw
                case rel =>
                  have hfin := HRL.out.upd_ RLC.out.said k
                  rw [upd_upd] at hfin
                  exact ⟨k + 1, upd D k (rcSaid (D k)), A8, n8, c8, rfl, by go_num, by omega, by rw [EQ.out, OE.out]; have := LN8.out; simpa [List.append_assoc] using this, by rw [EQ.out, OE.out]; have := P8.out; simpa [List.append_assoc] using this, by rw [EQ.out, OE.out]; exact hfin⟩
                case measure => simp [intOf]; omega
              | true =>
                have CLE := Lib.hid hcl
                rw [hcl] at c2
                clear hcl
                cases htl : (D k).tl with
                | true =>
                  have TLE := Lib.hid htl
                  rw [htl] at c3
                  clear htl
                  have hme : mustE cur = false := by unfold mustE; rw [RLC.out.cl, CLE.out, RLC.out.tl, TLE.out]; rfl
                  rw [hme] at OE
                  rw [if_neg (show ¬ (false = true) by decide), if_neg (show ¬ (false = true) by decide)] at OE
                  rw [if_pos hrd2, if_pos hrd2] at OE
                  clear hme hrd hrd2 hwz
                  rw [hrn] at OE
                  clear hrn
                  have OE := Lib.hid OE
                  go_wp2
                  go_quiet (fail)
                  have GN := Lib.hid (show wq.grownBy (wq.drewN nq) none from ⟨rfl, rfl, rfl, Nat.le_refl _, fun _ _ _ => rfl⟩)
                  have c0 : (wq.drewN nq).cell? ⟨n, k * 9, none⟩ = some (.slice U st cu) := c0
                  have c1 : (wq.drewN nq).cell? ⟨n, k * 9 + 1, none⟩ = some (.int .i64 st) := c1
                  have c2 : (wq.drewN nq).cell? ⟨n, k * 9 + 2, none⟩ = some (.bool true) := c2
                  have c3 : (wq.drewN nq).cell? ⟨n, k * 9 + 3, none⟩ = some (.bool true) := c3
                  have c5 : (wq.drewN nq).cell? ⟨n, k * 9 + 5, none⟩ = some (.int .i64 rd) := c5
                  have c6 : (wq.drewN nq).cell? ⟨n, k * 9 + 6, none⟩ = some (.int .i64 sd) := c6
                  have HI := Lib.hid (HI.out.made GN.out)
                  clear GN
                  generalize wq.drewN nq = wy at *
                  go_wp2
                  go_quiet (fail)
                  have GN := Lib.hid (show wy.grownBy (wy.drewN nq) none from ⟨rfl, rfl, rfl, Nat.le_refl _, fun _ _ _ => rfl⟩)
                  have c0 : (wy.drewN nq).cell? ⟨n, k * 9, none⟩ = some (.slice U st cu) := c0
                  have c1 : (wy.drewN nq).cell? ⟨n, k * 9 + 1, none⟩ = some (.int .i64 st) := c1
                  have c2 : (wy.drewN nq).cell? ⟨n, k * 9 + 2, none⟩ = some (.bool true) := c2
                  have c3 : (wy.drewN nq).cell? ⟨n, k * 9 + 3, none⟩ = some (.bool true) := c3
                  have c5 : (wy.drewN nq).cell? ⟨n, k * 9 + 5, none⟩ = some (.int .i64 rd) := c5
                  have c6 : (wy.drewN nq).cell? ⟨n, k * 9 + 6, none⟩ = some (.int .i64 sd) := c6
                  have HI := Lib.hid (HI.out.made GN.out)
                  clear GN
                  generalize wy.drewN nq = wz at *
                  go_wp2
                  go_quiet (fail)
                  have GN := Lib.hid (show wz.grownBy (wz.drewN nq) none from ⟨rfl, rfl, rfl, Nat.le_refl _, fun _ _ _ => rfl⟩)
                  have c5 : (wz.drewN nq).cell? ⟨n, k * 9 + 5, none⟩ = some (.int .i64 rd) := c5
                  have c6 : (wz.drewN nq).cell? ⟨n, k * 9 + 6, none⟩ = some (.int .i64 sd) := c6
                  have HI := Lib.hid (HI.out.made GN.out)
                  clear GN
                  generalize wz.drewN nq = wx at *
                  go_wp2
                  go_quiet (fail)
                  have GN := Lib.hid (show wx.grownBy (wx.drewN nq) none from ⟨rfl, rfl, rfl, Nat.le_refl _, fun _ _ _ => rfl⟩)
                  have c5 : (wx.drewN nq).cell? ⟨n, k * 9 + 5, none⟩ = some (.int .i64 rd) := c5
                  have c6 : (wx.drewN nq).cell? ⟨n, k * 9 + 6, none⟩ = some (.int .i64 sd) := c6
                  have HI := Lib.hid (HI.out.made GN.out)
                  clear GN
                  generalize wx.drewN nq = wv at *
                  go_wp2_with (first
                    | (at_builtin
                       have g1 : wv.grownBy (wv.alloc (.cells #[.int .u8 1, .int .u8 (k : Int), .int .u8 ((rn : Int) / 256 % 256), .int .u8 ((rn : Int) % 256)] 5)) none := grown_alloc _ _ _
                       have g2 : (wv.alloc (.cells #[.int .u8 1, .int .u8 (k : Int), .int .u8 ((rn : Int) / 256 % 256), .int .u8 ((rn : Int) % 256)] 5)).grownBy ((wv.alloc (.cells #[.int .u8 1, .int .u8 (k : Int), .int .u8 ((rn : Int) / 256 % 256), .int .u8 ((rn : Int) % 256)] 5)).alloc (.cells #[.int .i64 4, .slice (some ⟨wv.heap.size, 0, none⟩) 4 4] 24)) none := grown_alloc _ _ _
                       have L2 := Lib.hid ((HI.out.made g1).made g2)
                       have o2 := OwnB.new4 wv w.heap.size 5 (UInt8.ofNat 1) (UInt8.ofNat k) (UInt8.ofNat (rn / 256)) (UInt8.ofNat (rn % 256)) 1 (k : Int) ((rn : Int) / 256 % 256) ((rn : Int) % 256) (by first | rfl | (simp; done) | (simp; omega)) (by have := HLT.out; simp; omega) (by first | rfl | (simp; done) | (simp; omega)) (by first | rfl | (simp; done) | (simp; omega)) HI.out.md.size
                       have o3 := o2.none_ g2
                       refine wpList_appF rfl (.tmp 146) (.tmp 157) rfl (f := ((4 : Int), ctlB 1 k rn)) L2.out.of o3 (fun _ _ => trivial) (ad := ⟨wv.heap.size + 1, 0, none⟩) (c := 1) (by first | rfl | go_simp) (by first | rfl | go_simp) (by first | rfl | go_simp) (by first | rfl | go_simp) (by have := (show (F ++ done.map (fun b => ((k : Int), b))).length ≤ 100000 by rw [HM1.out]; have := HB5.out; omega); omega) L2.out.md.size ?_
                       intro v8 w8 of8 gr8 _
                       obtain ⟨A8, c8, hv8, -, -⟩ := of8.shape
                       have H8 := Lib.hid (L2.out.app gr8 of8)
                       generalize hl8 : List.length (_ ++ [_]) = n8 at hv8
                       subst hv8
                       have LN8 := Lib.hid hl8
                       have P8 := Lib.hid (H8.out.put HLT.out 6 (.int .i64 (rd : Int)) (rcSaid (D k)) (by omega) (by rw [← RDE.out]; rfl) (by rfl) (by rfl))
                       have e5 := H8.out.rx.at_ HLT.out (k := 5) rfl
                       have e6 := H8.out.rx.at_ HLT.out (k := 6) rfl
                       skip
                       rw [show (D k).rd = rd from RDE.out] at e5
                       rw [show (D k).sd = sd from SDE.out] at e6
                       have f6 := H8.out.rx.cb.free (k * 9 + 6)
                       clear of8 gr8 hl8 g1 g2 o2 o3))
                  go_roundw
                  case rel =>
                    have hfin := HRL.out.upd_ RLC.out.said k
                    rw [upd_upd] at hfin
                    exact ⟨k + 1, upd D k (rcSaid (D k)), A8, n8, c8, rfl, by go_num, by omega, by rw [EQ.out, OE.out]; have := LN8.out; simpa [List.append_assoc] using this, by rw [EQ.out, OE.out]; have := P8.out; simpa [List.append_assoc] using this, by rw [EQ.out, OE.out]; exact hfin⟩
                  case measure => simp [intOf]; omega
                | false =>
                  have TLE := Lib.hid htl
                  rw [htl] at c3
                  clear htl
                  have hme : mustE cur = true := by unfold mustE; rw [RLC.out.cl, CLE.out, RLC.out.tl, TLE.out, hwz]; rfl
                  rw [hme] at OE
                  rw [if_pos rfl, if_pos rfl] at OE
                  rw [if_pos hrd2, if_pos hrd2] at OE
                  clear hme hrd hrd2 hwz
                  rw [hrn] at OE
                  clear hrn
                  have OE := Lib.hid OE
                  go_wp2
                  go_quiet (fail)
                  have GN := Lib.hid (show wq.grownBy (wq.drewN nq) none from ⟨rfl, rfl, rfl, Nat.le_refl _, fun _ _ _ => rfl⟩)
                  have c0 : (wq.drewN nq).cell? ⟨n, k * 9, none⟩ = some (.slice U st cu) := c0
                  have c1 : (wq.drewN nq).cell? ⟨n, k * 9 + 1, none⟩ = some (.int .i64 st) := c1
                  have c2 : (wq.drewN nq).cell? ⟨n, k * 9 + 2, none⟩ = some (.bool true) := c2
                  have c3 : (wq.drewN nq).cell? ⟨n, k * 9 + 3, none⟩ = some (.bool false) := c3
                  have c5 : (wq.drewN nq).cell? ⟨n, k * 9 + 5, none⟩ = some (.int .i64 rd) := c5
                  have c6 : (wq.drewN nq).cell? ⟨n, k * 9 + 6, none⟩ = some (.int .i64 sd) := c6
                  have HI := Lib.hid (HI.out.made GN.out)
                  clear GN
                  generalize wq.drewN nq = wy at *
                  go_wp2
                  go_quiet (fail)
                  have GN := Lib.hid (show wy.grownBy (wy.drewN nq) none from ⟨rfl, rfl, rfl, Nat.le_refl _, fun _ _ _ => rfl⟩)
                  have c0 : (wy.drewN nq).cell? ⟨n, k * 9, none⟩ = some (.slice U st cu) := c0
                  have c1 : (wy.drewN nq).cell? ⟨n, k * 9 + 1, none⟩ = some (.int .i64 st) := c1
                  have c2 : (wy.drewN nq).cell? ⟨n, k * 9 + 2, none⟩ = some (.bool true) := c2
                  have c3 : (wy.drewN nq).cell? ⟨n, k * 9 + 3, none⟩ = some (.bool false) := c3
                  have c5 : (wy.drewN nq).cell? ⟨n, k * 9 + 5, none⟩ = some (.int .i64 rd) := c5
                  have c6 : (wy.drewN nq).cell? ⟨n, k * 9 + 6, none⟩ = some (.int .i64 sd) := c6
                  have HI := Lib.hid (HI.out.made GN.out)
                  clear GN
                  generalize wy.drewN nq = wz at *
                  go_wp2_with (first
                    | (at_builtin
                       have g1 : wz.grownBy (wz.alloc (.cells #[.int .u8 2, .int .u8 (k : Int), .int .u8 0, .int .u8 0] 5)) none := grown_alloc _ _ _
                       have g2 : (wz.alloc (.cells #[.int .u8 2, .int .u8 (k : Int), .int .u8 0, .int .u8 0] 5)).grownBy ((wz.alloc (.cells #[.int .u8 2, .int .u8 (k : Int), .int .u8 0, .int .u8 0] 5)).alloc (.cells #[.int .i64 4, .slice (some ⟨wz.heap.size, 0, none⟩) 4 4] 24)) none := grown_alloc _ _ _
                       have L2 := Lib.hid ((HI.out.made g1).made g2)
                       have o2 := OwnB.new4 wz w.heap.size 5 (UInt8.ofNat 2) (UInt8.ofNat k) (UInt8.ofNat (0 / 256)) (UInt8.ofNat (0 % 256)) 2 (k : Int) 0 0 (by first | rfl | (simp; done) | (simp; omega)) (by have := HLT.out; simp; omega) (by first | rfl | (simp; done) | (simp; omega)) (by first | rfl | (simp; done) | (simp; omega)) HI.out.md.size
                       have o3 := o2.none_ g2
                       refine wpList_appF rfl (.tmp 118) (.tmp 123) rfl (f := ((4 : Int), ctlB 2 k 0)) L2.out.of o3 (fun _ _ => trivial) (ad := ⟨wz.heap.size + 1, 0, none⟩) (c := 1) (by first | rfl | go_simp) (by first | rfl | go_simp) (by first | rfl | go_simp) (by first | rfl | go_simp) (by have := (show (F ++ done.map (fun b => ((k : Int), b))).length ≤ 100000 by rw [HM1.out]; have := HB5.out; omega); omega) L2.out.md.size ?_
                       intro v4 w4 of4 gr4 _
                       obtain ⟨A4, c4, hv4, -, -⟩ := of4.shape
                       have H4 := Lib.hid (L2.out.app gr4 of4)
                       generalize hl4 : List.length (_ ++ [_]) = n4 at hv4
                       subst hv4
                       have LN4 := Lib.hid hl4
                       have P4 := Lib.hid (H4.out.put HLT.out 3 (.bool true) (rcTold (D k)) (by omega) rfl rfl rfl)
                       have e3 := H4.out.rx.at_ HLT.out (k := 3) rfl
                       rw [TLE.out] at e3
                       have f3 := H4.out.rx.cb.free (k * 9 + 3)
                       have c5 := P4.out.rx.at_ HLT.out (k := 5) rfl
                       have c6 := P4.out.rx.at_ HLT.out (k := 6) rfl
                       rw [upd_same] at c5 c6
                       rw [show (rcTold (D k)).rd = rd from RDE.out] at c5
                       rw [show (rcTold (D k)).sd = sd from SDE.out] at c6
                       clear of4 gr4 hl4 g1 g2 o2 o3))
                  have HI := Lib.hid P4.out
                  clear P4 H4 L2 e3 f3
                  generalize w4.setCell ⟨n, k * 9 + 3, none⟩ (.bool true) = w5 at *
                  go_quiet (fail)
                  have GN := Lib.hid (show w5.grownBy (w5.drewN nq) none from ⟨rfl, rfl, rfl, Nat.le_refl _, fun _ _ _ => rfl⟩)
                  have c5 : (w5.drewN nq).cell? ⟨n, k * 9 + 5, none⟩ = some (.int .i64 rd) := c5
                  have c6 : (w5.drewN nq).cell? ⟨n, k * 9 + 6, none⟩ = some (.int .i64 sd) := c6
                  have HI := Lib.hid (HI.out.made GN.out)
                  clear GN
                  generalize w5.drewN nq = wx at *
                  go_wp2
                  go_quiet (fail)
                  have GN := Lib.hid (show wx.grownBy (wx.drewN nq) none from ⟨rfl, rfl, rfl, Nat.le_refl _, fun _ _ _ => rfl⟩)
                  have c5 : (wx.drewN nq).cell? ⟨n, k * 9 + 5, none⟩ = some (.int .i64 rd) := c5
                  have c6 : (wx.drewN nq).cell? ⟨n, k * 9 + 6, none⟩ = some (.int .i64 sd) := c6
                  have HI := Lib.hid (HI.out.made GN.out)
                  clear GN
                  generalize wx.drewN nq = wv at *
                  go_wp2_with (first
                    | (at_builtin
                       have g1 : wv.grownBy (wv.alloc (.cells #[.int .u8 1, .int .u8 (k : Int), .int .u8 ((rn : Int) / 256 % 256), .int .u8 ((rn : Int) % 256)] 5)) none := grown_alloc _ _ _
                       have g2 : (wv.alloc (.cells #[.int .u8 1, .int .u8 (k : Int), .int .u8 ((rn : Int) / 256 % 256), .int .u8 ((rn : Int) % 256)] 5)).grownBy ((wv.alloc (.cells #[.int .u8 1, .int .u8 (k : Int), .int .u8 ((rn : Int) / 256 % 256), .int .u8 ((rn : Int) % 256)] 5)).alloc (.cells #[.int .i64 4, .slice (some ⟨wv.heap.size, 0, none⟩) 4 4] 24)) none := grown_alloc _ _ _
                       have L2 := Lib.hid ((HI.out.made g1).made g2)
                       have o2 := OwnB.new4 wv w.heap.size 5 (UInt8.ofNat 1) (UInt8.ofNat k) (UInt8.ofNat (rn / 256)) (UInt8.ofNat (rn % 256)) 1 (k : Int) ((rn : Int) / 256 % 256) ((rn : Int) % 256) (by first | rfl | (simp; done) | (simp; omega)) (by have := HLT.out; simp; omega) (by first | rfl | (simp; done) | (simp; omega)) (by first | rfl | (simp; done) | (simp; omega)) HI.out.md.size
                       have o3 := o2.none_ g2
                       refine wpList_appF rfl (.tmp 146) (.tmp 157) rfl (f := ((4 : Int), ctlB 1 k rn)) L2.out.of o3 (fun _ _ => trivial) (ad := ⟨wv.heap.size + 1, 0, none⟩) (c := 1) (by first | rfl | go_simp) (by first | rfl | go_simp) (by first | rfl | go_simp) (by first | rfl | go_simp) (by have := (show (F ++ done.map (fun b => ((k : Int), b)) ++ [((4 : Int), ctlB 2 k 0)]).length ≤ 100000 by rw [List.length_append, HM1.out]; have := HB5.out; simp; omega); omega) L2.out.md.size ?_
                       intro v8 w8 of8 gr8 _
                       obtain ⟨A8, c8, hv8, -, -⟩ := of8.shape
                       have H8 := Lib.hid (L2.out.app gr8 of8)
                       generalize hl8 : List.length (_ ++ [_]) = n8 at hv8
                       subst hv8
                       have LN8 := Lib.hid hl8
                       have P8 := Lib.hid (H8.out.put HLT.out 6 (.int .i64 (rd : Int)) (rcSaid (rcTold (D k))) (by omega) (by rw [upd_same]; rw [← RDE.out]; rfl) (by rw [upd_same]; rfl) (by rw [upd_same]; rfl))
                       have e5 := H8.out.rx.at_ HLT.out (k := 5) rfl
                       have e6 := H8.out.rx.at_ HLT.out (k := 6) rfl
                       rw [upd_same] at e5 e6
                       rw [show (rcTold (D k)).rd = rd from RDE.out] at e5
                       rw [show (rcTold (D k)).sd = sd from SDE.out] at e6
                       have f6 := H8.out.rx.cb.free (k * 9 + 6)
                       clear of8 gr8 hl8 g1 g2 o2 o3))
                  have P8 := Lib.hid (by have := P8.out; rwa [upd_upd] at this)
                  go_roundw
                  case rel =>
                    have hfin := HRL.out.upd_ RLC.out.told.said k
                    rw [upd_upd] at hfin
                    exact ⟨k + 1, upd D k (rcSaid (rcTold (D k))), A8, n8, c8, rfl, by go_num, by omega, by rw [EQ.out, OE.out]; have := LN8.out; simpa [List.append_assoc] using this, by rw [EQ.out, OE.out]; have := P8.out; simpa [List.append_assoc] using this, by rw [EQ.out, OE.out]; exact hfin⟩
                  case measure => simp [intOf]; omega
            · have dr : decide (sd < rd) = false := decide_eq_false hrd
              have hrd2 : ¬ 0 < cur.read := by have := RLC.out.rd; rw [SDE.out, RDE.out] at this; omega
              cases hcl : (D k).cl with
              | false =>
                have CLE := Lib.hid hcl
                rw [hcl] at c2
                clear hcl
                have hme : mustE cur = false := by unfold mustE; rw [RLC.out.cl, CLE.out]; rfl
                rw [hme] at OE
                rw [if_neg (show ¬ (false = true) by decide), if_neg (show ¬ (false = true) by decide)] at OE
                rw [if_neg hrd2, if_neg hrd2] at OE
                clear hme hrd hrd2 hwz
                have OE := Lib.hid OE
                go_wp2
                go_quiet (fail)
                have GN := Lib.hid (show wq.grownBy (wq.drewN nq) none from ⟨rfl, rfl, rfl, Nat.le_refl _, fun _ _ _ => rfl⟩)
                have c0 : (wq.drewN nq).cell? ⟨n, k * 9, none⟩ = some (.slice U st cu) := c0
                have c1 : (wq.drewN nq).cell? ⟨n, k * 9 + 1, none⟩ = some (.int .i64 st) := c1
                have c2 : (wq.drewN nq).cell? ⟨n, k * 9 + 2, none⟩ = some (.bool false) := c2
                have c3 : (wq.drewN nq).cell? ⟨n, k * 9 + 3, none⟩ = some (.bool (D k).tl) := c3
                have c5 : (wq.drewN nq).cell? ⟨n, k * 9 + 5, none⟩ = some (.int .i64 rd) := c5
                have c6 : (wq.drewN nq).cell? ⟨n, k * 9 + 6, none⟩ = some (.int .i64 sd) := c6
                have HI := Lib.hid (HI.out.made GN.out)
                clear GN
                generalize wq.drewN nq = wy at *
                go_wp2
                go_quiet (fail)
                have GN := Lib.hid (show wy.grownBy (wy.drewN nq) none from ⟨rfl, rfl, rfl, Nat.le_refl _, fun _ _ _ => rfl⟩)
                have c0 : (wy.drewN nq).cell? ⟨n, k * 9, none⟩ = some (.slice U st cu) := c0
                have c1 : (wy.drewN nq).cell? ⟨n, k * 9 + 1, none⟩ = some (.int .i64 st) := c1
                have c2 : (wy.drewN nq).cell? ⟨n, k * 9 + 2, none⟩ = some (.bool false) := c2
                have c3 : (wy.drewN nq).cell? ⟨n, k * 9 + 3, none⟩ = some (.bool (D k).tl) := c3
                have c5 : (wy.drewN nq).cell? ⟨n, k * 9 + 5, none⟩ = some (.int .i64 rd) := c5
                have c6 : (wy.drewN nq).cell? ⟨n, k * 9 + 6, none⟩ = some (.int .i64 sd) := c6
                have HI := Lib.hid (HI.out.made GN.out)
                clear GN
                generalize wy.drewN nq = wz at *
                go_wp2
                go_quiet (fail)
                have GN := Lib.hid (show wz.grownBy (wz.drewN nq) none from ⟨rfl, rfl, rfl, Nat.le_refl _, fun _ _ _ => rfl⟩)
                have c5 : (wz.drewN nq).cell? ⟨n, k * 9 + 5, none⟩ = some (.int .i64 rd) := c5
                have c6 : (wz.drewN nq).cell? ⟨n, k * 9 + 6, none⟩ = some (.int .i64 sd) := c6
                have HI := Lib.hid (HI.out.made GN.out)
                clear GN
                generalize wz.drewN nq = wx at *
                go_wp2
                go_roundw
                case rel =>
                  have hfin := HRL.out.upd_ RLC.out k
                  rw [upd_upd, upd_self] at hfin
                  exact ⟨k + 1, D, A1, m1, c1', rfl, by go_num, by omega, by rw [EQ.out, OE.out]; have := HM1.out; simpa [List.append_assoc] using this, by rw [EQ.out, OE.out]; have := HI.out; simpa [List.append_assoc] using this, by rw [EQ.out, OE.out]; exact hfin⟩
                case measure => simp [intOf]; omega
              | true =>
                have CLE := Lib.hid hcl
                rw [hcl] at c2
                clear hcl
                cases htl : (D k).tl with
                | true =>
                  have TLE := Lib.hid htl
                  rw [htl] at c3
                  clear htl
                  have hme : mustE cur = false := by unfold mustE; rw [RLC.out.cl, CLE.out, RLC.out.tl, TLE.out]; rfl
                  rw [hme] at OE
                  rw [if_neg (show ¬ (false = true) by decide), if_neg (show ¬ (false = true) by decide)] at OE
                  rw [if_neg hrd2, if_neg hrd2] at OE
                  clear hme hrd hrd2 hwz
                  have OE := Lib.hid OE
                  go_wp2
                  go_quiet (fail)
                  have GN := Lib.hid (show wq.grownBy (wq.drewN nq) none from ⟨rfl, rfl, rfl, Nat.le_refl _, fun _ _ _ => rfl⟩)
                  have c0 : (wq.drewN nq).cell? ⟨n, k * 9, none⟩ = some (.slice U st cu) := c0
                  have c1 : (wq.drewN nq).cell? ⟨n, k * 9 + 1, none⟩ = some (.int .i64 st) := c1
                  have c2 : (wq.drewN nq).cell? ⟨n, k * 9 + 2, none⟩ = some (.bool true) := c2
                  have c3 : (wq.drewN nq).cell? ⟨n, k * 9 + 3, none⟩ = some (.bool true) := c3
                  have c5 : (wq.drewN nq).cell? ⟨n, k * 9 + 5, none⟩ = some (.int .i64 rd) := c5
                  have c6 : (wq.drewN nq).cell? ⟨n, k * 9 + 6, none⟩ = some (.int .i64 sd) := c6
                  have HI := Lib.hid (HI.out.made GN.out)
                  clear GN
                  generalize wq.drewN nq = wy at *
                  go_wp2
                  go_quiet (fail)
                  have GN := Lib.hid (show wy.grownBy (wy.drewN nq) none from ⟨rfl, rfl, rfl, Nat.le_refl _, fun _ _ _ => rfl⟩)
                  have c0 : (wy.drewN nq).cell? ⟨n, k * 9, none⟩ = some (.slice U st cu) := c0
                  have c1 : (wy.drewN nq).cell? ⟨n, k * 9 + 1, none⟩ = some (.int .i64 st) := c1
                  have c2 : (wy.drewN nq).cell? ⟨n, k * 9 + 2, none⟩ = some (.bool true) := c2
                  have c3 : (wy.drewN nq).cell? ⟨n, k * 9 + 3, none⟩ = some (.bool true) := c3
                  have c5 : (wy.drewN nq).cell? ⟨n, k * 9 + 5, none⟩ = some (.int .i64 rd) := c5
                  have c6 : (wy.drewN nq).cell? ⟨n, k * 9 + 6, none⟩ = some (.int .i64 sd) := c6
                  have HI := Lib.hid (HI.out.made GN.out)
                  clear GN
                  generalize wy.drewN nq = wz at *
                  go_wp2
                  go_quiet (fail)
                  have GN := Lib.hid (show wz.grownBy (wz.drewN nq) none from ⟨rfl, rfl, rfl, Nat.le_refl _, fun _ _ _ => rfl⟩)
                  have c5 : (wz.drewN nq).cell? ⟨n, k * 9 + 5, none⟩ = some (.int .i64 rd) := c5
                  have c6 : (wz.drewN nq).cell? ⟨n, k * 9 + 6, none⟩ = some (.int .i64 sd) := c6
                  have HI := Lib.hid (HI.out.made GN.out)
                  clear GN
                  generalize wz.drewN nq = wx at *
                  go_wp2
                  go_roundw
                  case rel =>
                    have hfin := HRL.out.upd_ RLC.out k
                    rw [upd_upd, upd_self] at hfin
                    exact ⟨k + 1, D, A1, m1, c1', rfl, by go_num, by omega, by rw [EQ.out, OE.out]; have := HM1.out; simpa [List.append_assoc] using this, by rw [EQ.out, OE.out]; have := HI.out; simpa [List.append_assoc] using this, by rw [EQ.out, OE.out]; exact hfin⟩
                  case measure => simp [intOf]; omega
                | false =>
                  have TLE := Lib.hid htl
                  rw [htl] at c3
                  clear htl
                  have hme : mustE cur = true := by unfold mustE; rw [RLC.out.cl, CLE.out, RLC.out.tl, TLE.out, hwz]; rfl
                  rw [hme] at OE
                  rw [if_pos rfl, if_pos rfl] at OE
                  rw [if_neg hrd2, if_neg hrd2] at OE
                  clear hme hrd hrd2 hwz
                  have OE := Lib.hid OE
                  go_wp2
                  go_quiet (fail)
                  have GN := Lib.hid (show wq.grownBy (wq.drewN nq) none from ⟨rfl, rfl, rfl, Nat.le_refl _, fun _ _ _ => rfl⟩)
                  have c0 : (wq.drewN nq).cell? ⟨n, k * 9, none⟩ = some (.slice U st cu) := c0
                  have c1 : (wq.drewN nq).cell? ⟨n, k * 9 + 1, none⟩ = some (.int .i64 st) := c1
                  have c2 : (wq.drewN nq).cell? ⟨n, k * 9 + 2, none⟩ = some (.bool true) := c2
                  have c3 : (wq.drewN nq).cell? ⟨n, k * 9 + 3, none⟩ = some (.bool false) := c3
                  have c5 : (wq.drewN nq).cell? ⟨n, k * 9 + 5, none⟩ = some (.int .i64 rd) := c5
                  have c6 : (wq.drewN nq).cell? ⟨n, k * 9 + 6, none⟩ = some (.int .i64 sd) := c6
                  have HI := Lib.hid (HI.out.made GN.out)
                  clear GN
                  generalize wq.drewN nq = wy at *
                  go_wp2
                  go_quiet (fail)
                  have GN := Lib.hid (show wy.grownBy (wy.drewN nq) none from ⟨rfl, rfl, rfl, Nat.le_refl _, fun _ _ _ => rfl⟩)
                  have c0 : (wy.drewN nq).cell? ⟨n, k * 9, none⟩ = some (.slice U st cu) := c0
                  have c1 : (wy.drewN nq).cell? ⟨n, k * 9 + 1, none⟩ = some (.int .i64 st) := c1
                  have c2 : (wy.drewN nq).cell? ⟨n, k * 9 + 2, none⟩ = some (.bool true) := c2
                  have c3 : (wy.drewN nq).cell? ⟨n, k * 9 + 3, none⟩ = some (.bool false) := c3
                  have c5 : (wy.drewN nq).cell? ⟨n, k * 9 + 5, none⟩ = some (.int .i64 rd) := c5
                  have c6 : (wy.drewN nq).cell? ⟨n, k * 9 + 6, none⟩ = some (.int .i64 sd) := c6
                  have HI := Lib.hid (HI.out.made GN.out)
                  clear GN
                  generalize wy.drewN nq = wz at *
                  go_wp2_with (first
                    | (at_builtin
                       have g1 : wz.grownBy (wz.alloc (.cells #[.int .u8 2, .int .u8 (k : Int), .int .u8 0, .int .u8 0] 5)) none := grown_alloc _ _ _
                       have g2 : (wz.alloc (.cells #[.int .u8 2, .int .u8 (k : Int), .int .u8 0, .int .u8 0] 5)).grownBy ((wz.alloc (.cells #[.int .u8 2, .int .u8 (k : Int), .int .u8 0, .int .u8 0] 5)).alloc (.cells #[.int .i64 4, .slice (some ⟨wz.heap.size, 0, none⟩) 4 4] 24)) none := grown_alloc _ _ _
                       have L2 := Lib.hid ((HI.out.made g1).made g2)
                       have o2 := OwnB.new4 wz w.heap.size 5 (UInt8.ofNat 2) (UInt8.ofNat k) (UInt8.ofNat (0 / 256)) (UInt8.ofNat (0 % 256)) 2 (k : Int) 0 0 (by first | rfl | (simp; done) | (simp; omega)) (by have := HLT.out; simp; omega) (by first | rfl | (simp; done) | (simp; omega)) (by first | rfl | (simp; done) | (simp; omega)) HI.out.md.size
                       have o3 := o2.none_ g2
                       refine wpList_appF rfl (.tmp 118) (.tmp 123) rfl (f := ((4 : Int), ctlB 2 k 0)) L2.out.of o3 (fun _ _ => trivial) (ad := ⟨wz.heap.size + 1, 0, none⟩) (c := 1) (by first | rfl | go_simp) (by first | rfl | go_simp) (by first | rfl | go_simp) (by first | rfl | go_simp) (by have := (show (F ++ done.map (fun b => ((k : Int), b))).length ≤ 100000 by rw [HM1.out]; have := HB5.out; omega); omega) L2.out.md.size ?_
                       intro v4 w4 of4 gr4 _
                       obtain ⟨A4, c4, hv4, -, -⟩ := of4.shape
                       have H4 := Lib.hid (L2.out.app gr4 of4)
                       generalize hl4 : List.length (_ ++ [_]) = n4 at hv4
                       subst hv4
                       have LN4 := Lib.hid hl4
                       have P4 := Lib.hid (H4.out.put HLT.out 3 (.bool true) (rcTold (D k)) (by omega) rfl rfl rfl)
                       have e3 := H4.out.rx.at_ HLT.out (k := 3) rfl
                       rw [TLE.out] at e3
                       have f3 := H4.out.rx.cb.free (k * 9 + 3)
                       have c5 := P4.out.rx.at_ HLT.out (k := 5) rfl
                       have c6 := P4.out.rx.at_ HLT.out (k := 6) rfl
                       rw [upd_same] at c5 c6
                       rw [show (rcTold (D k)).rd = rd from RDE.out] at c5
                       rw [show (rcTold (D k)).sd = sd from SDE.out] at c6
                       clear of4 gr4 hl4 g1 g2 o2 o3))
                  have HI := Lib.hid P4.out
                  clear P4 H4 L2 e3 f3
                  generalize w4.setCell ⟨n, k * 9 + 3, none⟩ (.bool true) = w5 at *
                  go_quiet (fail)
                  have GN := Lib.hid (show w5.grownBy (w5.drewN nq) none from ⟨rfl, rfl, rfl, Nat.le_refl _, fun _ _ _ => rfl⟩)
                  have c5 : (w5.drewN nq).cell? ⟨n, k * 9 + 5, none⟩ = some (.int .i64 rd) := c5
                  have c6 : (w5.drewN nq).cell? ⟨n, k * 9 + 6, none⟩ = some (.int .i64 sd) := c6
                  have HI := Lib.hid (HI.out.made GN.out)
                  clear GN
                  generalize w5.drewN nq = wx at *
                  go_wp2
                  go_roundw
                  case rel =>
                    have hfin := HRL.out.upd_ RLC.out.told k
                    rw [upd_upd] at hfin
                    exact ⟨k + 1, upd D k (rcTold (D k)), A4, n4, c4, rfl, by go_num, by omega, by rw [EQ.out, OE.out]; have := LN4.out; simpa [List.append_assoc] using this, by rw [EQ.out, OE.out]; have := HI.out; simpa [List.append_assoc] using this, by rw [EQ.out, OE.out]; exact hfin⟩
                  case measure => simp [intOf]; omega
    · have hk4 : k = 4 := by omega
      subst hk4
      go_wp2
      go_ret
      exact ⟨_, _, _, _, rfl, hm, hi, hrl⟩
end Go.Proofs.Ytajfaplaaafjiaa
