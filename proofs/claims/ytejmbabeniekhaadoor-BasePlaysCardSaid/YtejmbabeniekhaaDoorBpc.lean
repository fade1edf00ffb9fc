/- The walk of the document's Put (base). -/
import Derived.Test.YtejmbabeniekhaaDoorBpb
import Derived.Test.YtejmbabeniekhaaDoorInz
import Derived.Test.YtejmbabeniekhaaDoorNmd
import Derived.BigQuiet
namespace Go.Proofs.YtejmbabeniekhaaDoor
open Go.RowKit Go.Maps

/-- Only new memory, the Base's own block, or one block of entries, at or above B, has changed. -/
def WrL (B m : Nat) (w w' : World) : Prop := w.grownBy w' none ∨ ∃ g, B ≤ g ∧ (g = m ∨ ∃ cs, CB w g 51 cs) ∧ w.grownBy w' (some g)
theorem cb_ne {w : World} {g g' : Nat} {t t' : TypeId} {cs cs' : List Value} (h : CB w g t cs) (h' : CB w g' t' cs') (ht : t ≠ t') : g ≠ g' := by
  intro e
  subst e
  have h1 := h.symm.trans h'
  injection h1 with h1
  injection h1 with _ h1
  exact ht h1
/-- What the document's Put answers. -/
def PutL (w : World) (B m : Nat) (E : List En) (e : En) (x : Ending) (w' : World) : Prop := ∃ out k, PutS E e out k ∧ x = .returned (.int .i64 k) ∧ LS w' B m out ∧ WrL B m w w'
theorem rightE_of (e : En) : rightE e = (parses e.1 && (decide (1 ≤ e.2.2.1) && decide (e.2.2.1 ≤ 1099511627776) && (decide (e.2.2.2.1 = 0) || decide (e.2.2.2.1 = 1)))) := rfl
set_option maxRecDepth 10000 in
set_option maxHeartbeats 1000000 in
theorem refPut_a (w : World) (B m : Nat) (E : List En) (h : LS w B m E) (e : En) (he : enOk e) (hp : parses e.1 = false) (hr : rightE e = false) :
    Calls Tryd.prog 25 #[.pointer (some ⟨m, 0, none⟩), .agg (enC e).toArray] w fun x w' => PutL w B m E e x w' := by
  have B0 := Lib.hid (CB.new w 51 (enC e))
  have G0 := Lib.hid (grown_alloc w (.cells (enC e).toArray 51) none)
  have q1 := B0.out.at_ (enC_name e)
  have HLI := Lib.hid (enC_life he.lk)
  have HFL := Lib.hid (enC_flags he.lk)
  have HLN := Lib.hid he.ln
  have S00 := Lib.hid (h.none G0.out)
  have HP := Lib.hid hp
  have HR := Lib.hid hr
  clear h hp hr he
  go_enter Tryd.func25, Tryd.ntmps25
  go_wp2_with (go_at_call 58; refine (refNamedB_any ⟨e.1.toArray⟩ e.1 rfl _ (Nat.le_trans HLN.out (by omega))).mono ?_; rintro r w1 ⟨rfl, g1⟩; rw [HP.out]; have G1 := Lib.hid (grown_trans' G0.out g1); have B1 := Lib.hid (B0.out.kept g1); have S1 := Lib.hid (S00.out.none g1); have q2 := B1.out.at_ HLI.out; have q3 := B1.out.at_ HFL.out; have q4 := B1.out.at_ (enC_name e); clear g1 q1)
  go_ret
  exact ⟨E, 1, .inl ⟨HR.out, rfl, rfl⟩, rfl, S1.out, .inl G1.out⟩
set_option maxRecDepth 10000 in
set_option maxHeartbeats 1000000 in
theorem refPut_b (w : World) (B m : Nat) (E : List En) (h : LS w B m E) (e : En) (he : enOk e) (hp : parses e.1 = true) (d1 : decide (e.2.2.1 < 1) = true) (hr : rightE e = false) :
    Calls Tryd.prog 25 #[.pointer (some ⟨m, 0, none⟩), .agg (enC e).toArray] w fun x w' => PutL w B m E e x w' := by
  have B0 := Lib.hid (CB.new w 51 (enC e))
  have G0 := Lib.hid (grown_alloc w (.cells (enC e).toArray 51) none)
  have q1 := B0.out.at_ (enC_name e)
  have HLI := Lib.hid (enC_life he.lk)
  have HFL := Lib.hid (enC_flags he.lk)
  have HLN := Lib.hid he.ln
  have S00 := Lib.hid (h.none G0.out)
  have HP := Lib.hid hp
  have HR := Lib.hid hr
  clear h hp hr he
  go_enter Tryd.func25, Tryd.ntmps25
  go_wp2_with (go_at_call 58; refine (refNamedB_any ⟨e.1.toArray⟩ e.1 rfl _ (Nat.le_trans HLN.out (by omega))).mono ?_; rintro r w1 ⟨rfl, g1⟩; rw [HP.out]; have G1 := Lib.hid (grown_trans' G0.out g1); have B1 := Lib.hid (B0.out.kept g1); have S1 := Lib.hid (S00.out.none g1); have q2 := B1.out.at_ HLI.out; have q3 := B1.out.at_ HFL.out; have q4 := B1.out.at_ (enC_name e); clear g1 q1)
  go_ret
  exact ⟨E, 1, .inl ⟨HR.out, rfl, rfl⟩, rfl, S1.out, .inl G1.out⟩
set_option maxRecDepth 10000 in
set_option maxHeartbeats 1000000 in
theorem refPut_c (w : World) (B m : Nat) (E : List En) (h : LS w B m E) (e : En) (he : enOk e) (hp : parses e.1 = true) (d1 : decide (e.2.2.1 < 1) = false) (d2 : decide (1099511627776 < e.2.2.1) = true) (hr : rightE e = false) :
    Calls Tryd.prog 25 #[.pointer (some ⟨m, 0, none⟩), .agg (enC e).toArray] w fun x w' => PutL w B m E e x w' := by
  have B0 := Lib.hid (CB.new w 51 (enC e))
  have G0 := Lib.hid (grown_alloc w (.cells (enC e).toArray 51) none)
  have q1 := B0.out.at_ (enC_name e)
  have HLI := Lib.hid (enC_life he.lk)
  have HFL := Lib.hid (enC_flags he.lk)
  have HLN := Lib.hid he.ln
  have S00 := Lib.hid (h.none G0.out)
  have HP := Lib.hid hp
  have HR := Lib.hid hr
  clear h hp hr he
  go_enter Tryd.func25, Tryd.ntmps25
  go_wp2_with (go_at_call 58; refine (refNamedB_any ⟨e.1.toArray⟩ e.1 rfl _ (Nat.le_trans HLN.out (by omega))).mono ?_; rintro r w1 ⟨rfl, g1⟩; rw [HP.out]; have G1 := Lib.hid (grown_trans' G0.out g1); have B1 := Lib.hid (B0.out.kept g1); have S1 := Lib.hid (S00.out.none g1); have q2 := B1.out.at_ HLI.out; have q3 := B1.out.at_ HFL.out; have q4 := B1.out.at_ (enC_name e); clear g1 q1)
  go_ret
  exact ⟨E, 1, .inl ⟨HR.out, rfl, rfl⟩, rfl, S1.out, .inl G1.out⟩
set_option maxRecDepth 10000 in
set_option maxHeartbeats 1000000 in
theorem refPut_d (w : World) (B m : Nat) (E : List En) (h : LS w B m E) (e : En) (he : enOk e) (hp : parses e.1 = true) (d1 : decide (e.2.2.1 < 1) = false) (d2 : decide (1099511627776 < e.2.2.1) = false) (d3 : decide (e.2.2.2.1 < 0) = true) (hr : rightE e = false) :
    Calls Tryd.prog 25 #[.pointer (some ⟨m, 0, none⟩), .agg (enC e).toArray] w fun x w' => PutL w B m E e x w' := by
  have B0 := Lib.hid (CB.new w 51 (enC e))
  have G0 := Lib.hid (grown_alloc w (.cells (enC e).toArray 51) none)
  have q1 := B0.out.at_ (enC_name e)
  have HLI := Lib.hid (enC_life he.lk)
  have HFL := Lib.hid (enC_flags he.lk)
  have HLN := Lib.hid he.ln
  have S00 := Lib.hid (h.none G0.out)
  have HP := Lib.hid hp
  have HR := Lib.hid hr
  clear h hp hr he
  go_enter Tryd.func25, Tryd.ntmps25
  go_wp2_with (go_at_call 58; refine (refNamedB_any ⟨e.1.toArray⟩ e.1 rfl _ (Nat.le_trans HLN.out (by omega))).mono ?_; rintro r w1 ⟨rfl, g1⟩; rw [HP.out]; have G1 := Lib.hid (grown_trans' G0.out g1); have B1 := Lib.hid (B0.out.kept g1); have S1 := Lib.hid (S00.out.none g1); have q2 := B1.out.at_ HLI.out; have q3 := B1.out.at_ HFL.out; have q4 := B1.out.at_ (enC_name e); clear g1 q1)
  go_ret
  exact ⟨E, 1, .inl ⟨HR.out, rfl, rfl⟩, rfl, S1.out, .inl G1.out⟩
set_option maxRecDepth 10000 in
set_option maxHeartbeats 1000000 in
theorem refPut_e (w : World) (B m : Nat) (E : List En) (h : LS w B m E) (e : En) (he : enOk e) (hp : parses e.1 = true) (d1 : decide (e.2.2.1 < 1) = false) (d2 : decide (1099511627776 < e.2.2.1) = false) (d3 : decide (e.2.2.2.1 < 0) = false) (d4 : decide (1 < e.2.2.2.1) = true) (hr : rightE e = false) :
    Calls Tryd.prog 25 #[.pointer (some ⟨m, 0, none⟩), .agg (enC e).toArray] w fun x w' => PutL w B m E e x w' := by
  have B0 := Lib.hid (CB.new w 51 (enC e))
  have G0 := Lib.hid (grown_alloc w (.cells (enC e).toArray 51) none)
  have q1 := B0.out.at_ (enC_name e)
  have HLI := Lib.hid (enC_life he.lk)
  have HFL := Lib.hid (enC_flags he.lk)
  have HLN := Lib.hid he.ln
  have S00 := Lib.hid (h.none G0.out)
  have HP := Lib.hid hp
  have HR := Lib.hid hr
  clear h hp hr he
  go_enter Tryd.func25, Tryd.ntmps25
  go_wp2_with (go_at_call 58; refine (refNamedB_any ⟨e.1.toArray⟩ e.1 rfl _ (Nat.le_trans HLN.out (by omega))).mono ?_; rintro r w1 ⟨rfl, g1⟩; rw [HP.out]; have G1 := Lib.hid (grown_trans' G0.out g1); have B1 := Lib.hid (B0.out.kept g1); have S1 := Lib.hid (S00.out.none g1); have q2 := B1.out.at_ HLI.out; have q3 := B1.out.at_ HFL.out; have q4 := B1.out.at_ (enC_name e); clear g1 q1)
  go_ret
  exact ⟨E, 1, .inl ⟨HR.out, rfl, rfl⟩, rfl, S1.out, .inl G1.out⟩
set_option maxRecDepth 10000 in
set_option maxHeartbeats 1000000 in
theorem refPut_wrong (w : World) (B m : Nat) (E : List En) (h : LS w B m E) (e : En) (he : enOk e) (hr : rightE e = false) :
    Calls Tryd.prog 25 #[.pointer (some ⟨m, 0, none⟩), .agg (enC e).toArray] w fun x w' => PutL w B m E e x w' := by
  cases hp : parses e.1 with
  | false => exact refPut_a w B m E h e he hp hr
  | true =>
    by_cases d1 : e.2.2.1 < 1
    · exact refPut_b w B m E h e he hp (decide_eq_true d1) hr
    · by_cases d2 : 1099511627776 < e.2.2.1
      · exact refPut_c w B m E h e he hp (decide_eq_false d1) (decide_eq_true d2) hr
      · by_cases d3 : e.2.2.2.1 < 0
        · exact refPut_d w B m E h e he hp (decide_eq_false d1) (decide_eq_false d2) (decide_eq_true d3) hr
        · by_cases d4 : 1 < e.2.2.2.1
          · exact refPut_e w B m E h e he hp (decide_eq_false d1) (decide_eq_false d2) (decide_eq_false d3) (decide_eq_true d4) hr
          · exfalso
            rw [rightE_of, hp, decide_eq_true (show 1 ≤ e.2.2.1 by omega), decide_eq_true (show e.2.2.1 ≤ 1099511627776 by omega)] at hr
            have h5 : e.2.2.2.1 = 0 ∨ e.2.2.2.1 = 1 := by omega
            rcases h5 with h5 | h5 <;> simp [h5] at hr
theorem right_parts {e : En} (hr : rightE e = true) : parses e.1 = true ∧ decide (e.2.2.1 < 1) = false ∧ decide (1099511627776 < e.2.2.1) = false ∧ decide (e.2.2.2.1 < 0) = false ∧ decide (1 < e.2.2.2.1) = false := by
  rw [rightE_of] at hr
  simp at hr
  obtain ⟨h1, ⟨h2, h3⟩, h4⟩ := hr
  refine ⟨h1, decide_eq_false (by omega), decide_eq_false (by omega), decide_eq_false (by omega), decide_eq_false (by omega)⟩
set_option maxRecDepth 10000 in
set_option maxHeartbeats 1000000 in
theorem refPut_full (w : World) (B m : Nat) (E : List En) (h : LS w B m E) (e : En) (he : enOk e) (hr : rightE e = true) (ha : atS nmE E e.1 = none) (hl : 16 ≤ E.length) :
    Calls Tryd.prog 25 #[.pointer (some ⟨m, 0, none⟩), .agg (enC e).toArray] w fun x w' => PutL w B m E e x w' := by
  obtain ⟨hp, d1, d2, d3, d4⟩ := right_parts hr
  have B0 := Lib.hid (CB.new w 51 (enC e))
  have G0 := Lib.hid (grown_alloc w (.cells (enC e).toArray 51) none)
  have q1 := B0.out.at_ (enC_name e)
  have HLI := Lib.hid (enC_life he.lk)
  have HFL := Lib.hid (enC_flags he.lk)
  have HLN := Lib.hid he.ln
  have S00 := Lib.hid (h.none G0.out)
  have HP := Lib.hid hp
  have HR := Lib.hid hr
  have HAN := Lib.hid ha
  have HL := Lib.hid hl
  have HA := Lib.hid (show atI (atS nmE E e.1) = -1 by rw [ha]; rfl)
  obtain ⟨n, hn⟩ : ∃ n, E.length = n := ⟨_, rfl⟩
  have dn : decide ((16 : Int) ≤ (n : Int)) = true := decide_eq_true (by omega)
  obtain ⟨A, cap, hcb, -, -⟩ := S00.out.open_
  rw [hn] at hcb
  have HCB := Lib.hid hcb
  clear h hp hr he ha hl hn hcb
  go_enter Tryd.func25, Tryd.ntmps25
  go_wp2_with (first
    | (go_at_call 58; refine (refNamedB_any ⟨e.1.toArray⟩ e.1 rfl _ (Nat.le_trans HLN.out (by omega))).mono ?_; rintro r w1 ⟨rfl, g1⟩; rw [HP.out]; have G1 := Lib.hid (grown_trans' G0.out g1); have B1 := Lib.hid (B0.out.kept g1); have S1 := Lib.hid (S00.out.none g1); have q2 := B1.out.at_ HLI.out; have q3 := B1.out.at_ HFL.out; have q4 := B1.out.at_ (enC_name e); have q5 := (HCB.out.kept g1).at_ (i := 0) (v := .slice A n cap) rfl; clear g1 q1)
    | (go_at_call 55; refine (at_is _ B m E S1.out e.1 (-1) HA.out).mono ?_; rintro r wn ⟨rfl, rfl⟩))
  go_ret
  exact ⟨E, 2, .inr (.inr (.inl ⟨HR.out, HAN.out, HL.out, rfl, rfl⟩)), rfl, S1.out, .inl G1.out⟩
def BpcF (e : En) (m gE n cap i : Nat) : Nat → Value → World → Prop
  | 0, v, _ => v = .pointer (some ⟨m, 0, none⟩)
  | 1, v, _ => v = .pointer (some ⟨m, 0, none⟩)
  | 2, v, _ => v = .pointer (some ⟨m, 0, none⟩)
  | 3, v, _ => v = .slice (some ⟨gE, 0, none⟩) n cap
  | 4, v, _ => v = .int .i64 i
  | 5, v, _ => v = .agg (enC e).toArray
  | 6, v, _ => v = .pointer (some ⟨gE, i * 20, none⟩)
  | _, _, _ => True
theorem BpcF.kept {e : En} {m gE n cap i : Nat} : ∀ (j : Nat) (v : Value) (x y : World), BpcF e m gE n cap i j v x → BpcF e m gE n cap i j v y
  | 0, _, _, _, h => h
  | 1, _, _, _, h => h
  | 2, _, _, _, h => h
  | 3, _, _, _, h => h
  | 4, _, _, _, h => h
  | 5, _, _, _, h => h
  | 6, _, _, _, h => h
  | _ + 7, _, _, _, _ => by simp [BpcF]
def RBpc (gE i : Nat) (cs : List Value) (e : En) (wd x : World) : Prop := CB x gE 51 (over cs (i * 20) (enC e)) ∧ wd.grownBy x (some gE)
set_option maxRecDepth 10000 in
set_option maxHeartbeats 1000000 in
theorem refPut_known (w : World) (B m : Nat) (E : List En) (h : LS w B m E) (e : En) (he : enOk e) (hr : rightE e = true) (i : Nat) (ha : atS nmE E e.1 = some i) :
    Calls Tryd.prog 25 #[.pointer (some ⟨m, 0, none⟩), .agg (enC e).toArray] w fun x w' => PutL w B m E e x w' := by
  obtain ⟨hp, d1, d2, d3, d4⟩ := right_parts hr
  have B0 := Lib.hid (CB.new w 51 (enC e))
  have G0 := Lib.hid (grown_alloc w (.cells (enC e).toArray 51) none)
  have q1 := B0.out.at_ (enC_name e)
  have HLI := Lib.hid (enC_life he.lk)
  have HFL := Lib.hid (enC_flags he.lk)
  have HLN := Lib.hid he.ln
  have S00 := Lib.hid (h.none G0.out)
  obtain ⟨y, hy, hyn, -⟩ := atS_some ha
  obtain ⟨hi, -⟩ := List.getElem?_eq_some_iff.1 hy
  obtain ⟨⟨v, hcb0, hrow0⟩, -⟩ := h.2
  obtain ⟨gE, cap, cs, hv, hBg, hcE, hnc, hcl, -, -⟩ := rowX_open hrow0 (by rw [List.length_map]; omega)
  subst hv
  rw [List.length_map] at hcb0 hrow0 hnc
  obtain ⟨n, hn⟩ : ∃ n, E.length = n := ⟨_, rfl⟩
  rw [hn] at hcb0 hrow0 hnc hi
  have HIN := Lib.hid (show (i : Int) < (n : Int) by omega)
  have HI := Lib.hid hi
  have HN := Lib.hid hn
  have HN16 := Lib.hid (show n ≤ 16 by rw [← hn]; exact h.2.2.2)
  have hge : ¬ ((i : Int) < 0) := by omega
  have dge : (0 : Int) ≤ (i : Int) := by omega
  have HOW := Lib.hid hrow0
  have HCL := Lib.hid hcl
  have HNC := Lib.hid hnc
  have HBG := Lib.hid hBg
  have HLE := Lib.hid (enC_length he.lk)
  have HEO := Lib.hid he
  have HS := Lib.hid h
  have CM0 := Lib.hid (hcb0.alloc (.cells (enC e).toArray 51))
  have CE0 := Lib.hid (hcE.alloc (.cells (enC e).toArray 51))
  have CEW := Lib.hid hcE
  have HNE := Lib.hid (cb_ne hcb0 hcE (by decide))
  have HP := Lib.hid hp
  have HR := Lib.hid hr
  have HAN := Lib.hid ha
  have HA := Lib.hid (show atI (atS nmE E e.1) = (i : Int) by rw [ha]; rfl)
  clear h hp hr he ha hn hcb0 hrow0 hnc hcl hBg hcE hy hyn hi
  go_enter Tryd.func25, Tryd.ntmps25
  go_wp2_with (first
    | (go_at_call 58; refine (refNamedB_any ⟨e.1.toArray⟩ e.1 rfl _ (Nat.le_trans HLN.out (by omega))).mono ?_; rintro r w1 ⟨rfl, g1⟩; rw [HP.out]; have G1 := Lib.hid (grown_trans' G0.out g1); have B1 := Lib.hid (B0.out.kept g1); have S1 := Lib.hid (S00.out.none g1); have q2 := B1.out.at_ HLI.out; have q3 := B1.out.at_ HFL.out; have q4 := B1.out.at_ (enC_name e); have CM1 := Lib.hid (CM0.out.kept g1); have CE1 := Lib.hid (CE0.out.kept g1); clear g1 q1)
    | (go_at_call 55; refine (at_is _ B m E S1.out e.1 ((i : Int)) HA.out).mono ?_; rintro r wn ⟨rfl, rfl⟩))
  have C4 := Lib.hid (show CB wn.drew m 47 [.slice (some ⟨gE, 0, none⟩) n cap] from CM1.out)
  have E4 := Lib.hid (show CB wn.drew gE 51 cs from CE1.out)
  have B4 := Lib.hid (show CB wn.drew w.heap.size 51 (enC e) from B1.out)
  have G4 := Lib.hid (grown_drew G1.out)
  obtain ⟨gw, hgw⟩ : ∃ g, w.heap.size = g := ⟨_, rfl⟩
  rw [hgw] at B4 ⊢
  clear hgw q2 q3 q4
  refine region_last 7 [some 39, some 40, some 41, some 42, some 43, some 44, some 45, none] (fun x => World.grownBy wn.drew x none) (BpcF e m gE n cap i) (fun _ x => RBpc gE i cs e wn.drew x) (by kernel_rfl) (by kernel_rfl) rfl (by kernel_rfl) (by kernel_rfl) (fun x y hg h => grown_trans' h hg) (fun j v x y hg _ h => BpcF.kept j v x y h) (World.grownBy.refl _ _) ⟨⟨⟨⟨⟨⟨⟨trivial, ?_⟩, ?_⟩, ?_⟩, ?_⟩, ?_⟩, ?_⟩, ?_⟩ ?_ ?_ ?_
  · refine Inv.duty_plain rfl rfl (fun L vs a x hG dep up val ev out K hK => ?_)
    have e0 : a.eval (.tmp 0) = .pointer (some ⟨m, 0, none⟩) := (out 0 (by kernel_rfl)).trans rfl
    refine Inv.wp_value (v := .pointer (some ⟨m, 0, none⟩)) ?_ (hK.out _ _ (World.grownBy.refl x _) rfl)
    clear hK K dep up val ev out
    generalize a.eval = ρ at *
    (simp [execOp, go_sem, *]; done)
  · refine Inv.duty_plain rfl rfl (fun L vs a x hG dep up val ev out K hK => ?_)
    have L39 := dep 0 (by kernel_rfl)
    have e39 : a.eval (.tmp 39) = .pointer (some ⟨m, 0, none⟩) := (ev 0 39 L39 (by kernel_rfl)).trans (val 0 L39)
    refine Inv.wp_value (v := .pointer (some ⟨m, 0, none⟩)) ?_ (hK.out _ _ (World.grownBy.refl x _) rfl)
    clear hK K dep up val ev out
    generalize a.eval = ρ at *
    (simp [execOp, go_sem, *]; done)
  · refine Inv.duty_plain rfl rfl (fun L vs a x hG dep up val ev out K hK => ?_)
    have L40 := dep 1 (by kernel_rfl)
    have e40 : a.eval (.tmp 40) = .pointer (some ⟨m, 0, none⟩) := (ev 1 40 L40 (by kernel_rfl)).trans (val 1 L40)
    refine Inv.wp_value (v := .pointer (some ⟨m, 0, none⟩)) ?_ (hK.out _ _ (World.grownBy.refl x _) rfl)
    clear hK K dep up val ev out
    generalize a.eval = ρ at *
    (simp [execOp, go_sem, *]; done)
  · refine Inv.duty_plain rfl rfl (fun L vs a x hG dep up val ev out K hK => ?_)
    have L41 := dep 2 (by kernel_rfl)
    have e41 : a.eval (.tmp 41) = .pointer (some ⟨m, 0, none⟩) := (ev 2 41 L41 (by kernel_rfl)).trans (val 2 L41)
    have q0 : x.cell? ⟨m, 0, none⟩ = some (.slice (some ⟨gE, 0, none⟩) n cap) := (C4.out.kept hG).at_ rfl
    refine Inv.wp_value (v := .slice (some ⟨gE, 0, none⟩) n cap) ?_ (hK.out _ _ (World.grownBy.refl x _) rfl)
    clear hK K dep up val ev out
    generalize a.eval = ρ at *
    (simp [execOp, go_sem, *]; done)
  · refine Inv.duty_plain rfl rfl (fun L vs a x hG dep up val ev out K hK => ?_)
    have e5 : a.eval (.tmp 5) = .int .i64 i := (out 5 (by kernel_rfl)).trans rfl
    refine Inv.wp_value (v := .int .i64 i) ?_ (hK.out _ _ (World.grownBy.refl x _) rfl)
    clear hK K dep up val ev out
    generalize a.eval = ρ at *
    (simp [execOp, go_sem, *]; done)
  · refine Inv.duty_plain rfl rfl (fun L vs a x hG dep up val ev out K hK => ?_)
    have e3 : a.eval (.tmp 3) = .pointer (some ⟨gw, 0, none⟩) := (out 3 (by kernel_rfl)).trans rfl
    exact wp_loadC aggE (.tmp 3) rfl (B4.out.kept hG) (take_all HLE.out) (by rw [HLE.out]; omega) e3 (hK.out _ _ (World.grownBy.refl x _) rfl)
  · refine Inv.duty_plain rfl rfl (fun L vs a x hG dep up val ev out K hK => ?_)
    have L42 := dep 3 (by kernel_rfl)
    have e42 : a.eval (.tmp 42) = .slice (some ⟨gE, 0, none⟩) n cap := (ev 3 42 L42 (by kernel_rfl)).trans (val 3 L42)
    have L43 := dep 4 (by kernel_rfl)
    have e43 : a.eval (.tmp 43) = .int .i64 i := (ev 4 43 L43 (by kernel_rfl)).trans (val 4 L43)
    refine Inv.wp_value (v := .pointer (some ⟨gE, i * 20, none⟩)) ?_ (hK.out _ _ (World.grownBy.refl x _) rfl)
    clear hK K dep up val ev out
    generalize a.eval = ρ at *
    have hin := HIN.out
    have hn0 := HN16.out
    (simp [execOp, go_sem, *]; done)
  · intro o ho
    injection ho with ho
    subst ho
    refine ⟨rfl, fun vs a x hG hF ev out K hK => ?_⟩
    have e1 : a.eval (.tmp 45) = .pointer (some ⟨gE, i * 20, none⟩) := (ev 6 45 (by omega) (by kernel_rfl)).trans (hF 6 (by omega))
    have e2 : a.eval (.tmp 44) = .agg (enC e).toArray := (ev 5 44 (by omega) (by kernel_rfl)).trans (hF 5 (by omega))
    refine wp_storeC (d := none) (off := i * 20) (p := enC e) (n := 20) (by kernel_rfl) rfl (.tmp 45) (.tmp 44) rfl (.agg (enC e).toArray) rfl (enC_one e) (E4.out.kept hG) HLE.out (by have h1 := HCL.out; have h2 := HNC.out; have h3 := HI.out; rw [h1]; omega) e1 e2 ?_
    intro w' hc' hg'
    exact hK.out _ _ ⟨hc', grown_trans' (grown_some hG gE) hg'⟩
  · intro vs vs' x _ h
    exact h
  · rintro vs w' ⟨hc, hg⟩
    simp only [Inv.putAll, Act.put, List.setIfInBounds_toArray, List.set_cons_zero, List.set_cons_succ, Nat.zero_add, Nat.reduceAdd]
    have HC := Lib.hid hc
    have HG := Lib.hid hg
    clear hc hg
    go_wp2
    go_ret
    refine ⟨E.set i e, 0, .inr (.inl ⟨HR.out, i, HAN.out, rfl, rfl⟩), rfl, ⟨HS.out.1, ⟨_, C4.out.grown HG.out HNE.out, ?_⟩, fun x hx => ?_, by rw [List.length_set]; exact HS.out.2.2.2⟩, .inr ⟨gE, HBG.out, .inr ⟨cs, CEW.out⟩, grown_trans' (grown_some G4.out gE) HG.out⟩⟩
    · have hl : (E.map enC).length = n := by rw [List.length_map]; exact HN.out
      have hr := rowX_over (k := i) (p := enC e) (w := w) (w' := w') (by rw [hl]; exact HOW.out) (by rw [hl]; exact HI.out) HLE.out CEW.out (by rw [Nat.mul_comm]; exact HC.out)
      rw [hl, ← List.map_set] at hr
      exact hr
    · rcases List.mem_or_eq_of_mem_set hx with hx | rfl
      · exact HS.out.2.2.1 x hx
      · exact HEO.out
end Go.Proofs.YtejmbabeniekhaaDoor
