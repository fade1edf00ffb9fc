/- The walk of a Reader's Feed. -/
import Derived.Test.YtajfaplaaafjiaaFre
namespace Go.Proofs.Ytajfaplaaafjiaa
open Go.RowKit

theorem szE : (Try.prog.info? 26).map (·.size) = some 1 := by kernel_rfl
def lenV : Value → Nat
  | .slice _ n _ => n
  | _ => 0
/-- What Feed makes of a Reader's state. -/
def feedF (part : List UInt8) (e : Int) (d : List UInt8) : List Fr × List UInt8 × Int := if e ≠ 0 then ([], [], e) else if (scan (part ++ d)).2.2 ≠ 0 then ([], [], (scan (part ++ d)).2.2) else scan (part ++ d)
/-- What stands at the head of each round. -/
def FdRel (w : World) (base r : Nat) (v : Value) (part l : List UInt8) (s1 s6 : Value) (wr : World) : Prop :=
  ∃ (A : Option Addr) (d : List UInt8) (c : Nat) (acc : List Fr) (v1 : Value) (p1 : List UInt8) (e1 : Int),
    s1 = .slice A d.length c ∧ d.length ≤ l.length ∧ RB wr w.heap.size A d c ∧ Apart A d r v1 ∧ OwnF wr w.heap.size (fun g => v1.ownBlock ≠ some g) s6 acc ∧ acc.length + d.length ≤ l.length ∧ RD wr base r v1 p1 e1 ∧ Mod (rdS r v) w wr ∧
    (∀ g, v1.ownBlock = some g → v.ownBlock = some g ∨ w.heap.size ≤ g) ∧
    ((e1 = 0 ∧ Inc p1 ∧ scan (part ++ l) = (acc ++ (scan (p1 ++ d)).1, (scan (p1 ++ d)).2)) ∨ (e1 ≠ 0 ∧ p1 = [] ∧ (scan (part ++ l)).2.2 = e1))

set_option maxRecDepth 10000 in
set_option maxHeartbeats 8000000 in
theorem feed_open (w : World) (base r : Nat) (v : Value) (part : List UInt8) (h : RD w base r v part 0) (hi : Inc part) (A : Option Addr) (l : List UInt8) (n cap : Nat) (hn : l.length = n) (hr : RB w w.heap.size A l cap) (ha : Apart A l r v) (hnl : n ≤ 1000000) :
    Calls Try.prog 15 #[.pointer (some ⟨r, 0, none⟩), .slice A n cap] w fun e' w' => ∃ vf v', e' = .returned (.tuple #[vf, .int .i64 (feedF part 0 l).2.2]) ∧
      OwnF w' w.heap.size (fun g => v'.ownBlock ≠ some g) vf (feedF part 0 l).1 ∧ RD w' base r v' (feedF part 0 l).2.1 (feedF part 0 l).2.2 ∧ Mod (rdS r v) w w' ∧ (∀ g, v'.ownBlock = some g → v.ownBlock = some g ∨ w.heap.size ≤ g) := by
  subst hn
  have h0 : FdRel w base r v part l (.slice A l.length cap) (.slice none 0 0) w := ⟨A, l, cap, [], v, part, 0, rfl, Nat.le_refl _, hr, ha, OwnF.nil_ _ _ _, by simp, h, Mod.refl _ _, fun g hg => .inl hg, .inl ⟨rfl, hi, by simp⟩⟩
  have H0 := Lib.hid h0
  have HRW := Lib.hid h.lt.2
  clear h0 hr ha h hi
  go_enter Try.func15, Try.ntmps15
  go_wp2
  go_loopw [1, 6, 7, 8] (fun s1 s6 _ _ wr => FdRel w base r v part l s1 s6 wr) (fun s1 _ _ _ _ => lenV s1)
  case atStart => exact H0.out
  case round =>
    obtain ⟨A1, d, c, acc, v1, p1, e1, rfl, hdl, hrd, hap, hof, hac, hR, hM, hv1, hst⟩ := hrel
    obtain ⟨P1, pc, hvs, hpr, -⟩ := hR.2.2.shape
    obtain ⟨p1n, hpn⟩ : ∃ x, p1.length = x := ⟨_, rfl⟩
    rw [hpn] at hvs
    subst hvs
    have k0 : wr.cell? ⟨r, 0, none⟩ = some (.slice P1 p1n pc) := hR.2.1.at_ rfl
    have k1 : wr.cell? ⟨r, 1, none⟩ = some (.int .i64 e1) := hR.2.1.at_ rfl
    by_cases hd0 : 0 < d.length
    · rcases hst with ⟨rfl, hinc, hsc⟩ | ⟨he1, hp1, hsc⟩
      · obtain ⟨L, hL, hL0, hL6, hstep⟩ := step_pure hinc hd0
        obtain ⟨m, hm⟩ : ∃ m, m = min L d.length := ⟨_, rfl⟩
        obtain ⟨q, hq⟩ : ∃ q, q = p1 ++ d.take m := ⟨_, rfl⟩
        obtain ⟨m0, md, q0, q6, hqe, hfa, hwh, hin⟩ := hstep m hm q hq
        obtain ⟨b, off, rfl, hb, hc⟩ := hrd.open_ hd0
        have hdi : (0 : Int) < (d.length : Int) := by omega
        have hcl : d.length ≤ c := hrd.1
        have hcm : c ≤ 9223372036854775807 := hrd.2.1
        have DT := Lib.hid (hrd.head m)
        have DTL := Lib.hid (show (d.take m).length = m by rw [List.length_take]; omega)
        have LK := Lib.hid (fun W (k : Dr wr W) => lacks_any W base r _ p1 0 (hR.dr k) (by have := hinc.small; omega))
        rw [hL] at LK
        have hcq := hrd.cut md
        obtain ⟨qa, hqa⟩ : ∃ qa, (if c = m then some (⟨b, off, none⟩ : Addr) else some ⟨b, off + m, none⟩) = some qa := by split <;> exact ⟨_, rfl⟩
        have DC := Lib.hid (show RB wr w.heap.size (some qa) (d.drop m) (c - m) by
          rw [show (if c = m then some (⟨b, off, none⟩ : Addr) else (some (⟨b, off, none⟩ : Addr)).map (·.add m)) = some qa by rw [← hqa, Option.map_some, Addr.add_lit]] at hcq
          exact hcq)
        have QB := Lib.hid (show qa.block = b by split at hqa <;> (injection hqa with hqa; rw [← hqa]))
        have HSC := Lib.hid hsc
        have RD1 := Lib.hid hR
        have P1L := Lib.hid hpn
        have MM := Lib.hid hM
        have OF := Lib.hid hof
        have AP := Lib.hid hap
        have V1 := Lib.hid hv1
        have HM := Lib.hid hm
        have HQ := Lib.hid hq
        have HDL := Lib.hid hdl
        have HAC := Lib.hid hac
        have HINC := Lib.hid hinc
        obtain ⟨dn, hdn⟩ : ∃ x, d.length = x := ⟨_, rfl⟩
        have hmin : (if dn < L then (dn : Int) else (L : Int)) = (m : Int) := by rw [hm, hdn]; split <;> omega
        have HM := Lib.hid hm
        have DN := Lib.hid hdn
        have HMD := Lib.hid md
        have HHI := Lib.hid hqe
        have HFA := Lib.hid hfa
        have HWH := Lib.hid hwh
        have HIN := Lib.hid hin
        have HQL := Lib.hid (show 0 < q.length ∧ q.length ≤ 600 from ⟨q0, q6⟩)
        clear hrd hcq hap hof hac hR hM hv1 hinc hsc hm hq hc hpr hdl hstep hqe hfa hwh hin q0 q6
        rw [hdn] at hdi hcl hd0 md
        rw [hdn]
        clear hdn
        have hmc : m ≤ c := by omega
        have hmci : (m : Int) ≤ (c : Int) := by omega
        have hmdi : (m : Int) ≤ (dn : Int) := by omega
        go_wp2_with (go_at_call 42; refine (LK.out _ (Dr.refl _)).mono ?_; rintro e w1 ⟨rfl, d1⟩; have D1 := Lib.hid d1; clear d1)
        obtain ⟨wd, hwd⟩ : ∃ x, w1.drew = x := ⟨_, rfl⟩
        have DW := Lib.hid (show Dr wr wd by rw [← hwd]; exact Dr.trans D1.out ⟨1, rfl⟩)
        have RDd := Lib.hid (RD1.out.dr DW.out)
        have K0 := Lib.hid (show wd.cell? ⟨r, 0, none⟩ = some (.slice P1 p1n pc) from RDd.out.2.1.at_ rfl)
        have MDW := Lib.hid (fun S => Mod.made (S := S) (DW.out.made none))
        have DTd := Lib.hid (DT.out.mod (MDW.out (fun _ => False)) (by have := MM.out.size; omega) (fun _ _ h => h))
        have DML := Lib.hid (show m ≤ 600 ∧ p1n ≤ 600 by have := HQL.out.2; rw [HQ.out, List.length_append, DTL.out, P1L.out] at this; omega)
        refine helds_begin (fun _ => True) (by kernel_rfl) trivial (fun _ => ?_)
        try rw [hwd]
        refine helds_take (i := 0) (d := some 24) (v := ?vf4_1) trivial rfl rfl (by kernel_rfl) (fun _ _ _ h => h) ?yf4_1 ?_; case yf4_1 => (refine Or.inl ⟨rfl, fun wx hS => ?_⟩; go_simp; try with_reducible rfl)
        try simp only [Act.put, List.setIfInBounds_toArray, List.set_cons_zero, List.set_cons_succ]
        refine helds_take (i := 1) (d := some 25) (v := ?vf4_2) trivial rfl rfl (by kernel_rfl) (fun _ _ _ h => h) ?yf4_2 ?_; case yf4_2 => (refine Or.inl ⟨rfl, fun wx hS => ?_⟩; go_simp; try with_reducible rfl)
        try simp only [Act.put, List.setIfInBounds_toArray, List.set_cons_zero, List.set_cons_succ]
        refine helds_take (i := 2) (d := some 26) (v := ?vf4_3) trivial rfl rfl (by kernel_rfl) (fun _ _ _ h => h) ?yf4_3 ?_; case yf4_3 => (refine Or.inl ⟨rfl, fun wx hS => ?_⟩; go_simp; try with_reducible rfl)
        try simp only [Act.put, List.setIfInBounds_toArray, List.set_cons_zero, List.set_cons_succ]
        refine helds_take (i := 3) (d := some 27) (v := ?vf4_4) trivial rfl rfl (by kernel_rfl) (fun _ _ _ h => h) ?yf4_4 ?_; case yf4_4 => (refine Or.inl ⟨rfl, fun wx hS => ?_⟩; go_simp; try with_reducible rfl)
        try simp only [Act.put, List.setIfInBounds_toArray, List.set_cons_zero, List.set_cons_succ]
        refine helds_take (i := 5) (d := some 29) (v := ?vf4_5) trivial rfl rfl (by kernel_rfl) (fun _ _ _ h => h) ?yf4_5 ?_; case yf4_5 => (refine Or.inl ⟨rfl, fun wx hS => ?_⟩; go_simp; try with_reducible rfl)
        try simp only [Act.put, List.setIfInBounds_toArray, List.set_cons_zero, List.set_cons_succ]
        refine helds_take (i := 6) (d := some 30) (v := ?vf4_6) trivial rfl rfl (by kernel_rfl) (fun _ _ _ h => h) ?yf4_6 ?_; case yf4_6 => (refine Or.inl ⟨rfl, fun wx hS => ?_⟩; go_simp; try with_reducible rfl)
        try simp only [Act.put, List.setIfInBounds_toArray, List.set_cons_zero, List.set_cons_succ]
        refine helds_take (i := 7) (d := some 31) (v := ?vf4_7) trivial rfl rfl (by kernel_rfl) (fun _ _ _ h => h) ?yf4_7 ?_; case yf4_7 => (refine Or.inl ⟨rfl, fun wx hS => ?_⟩; go_simp; try with_reducible rfl)
        try simp only [Act.put, List.setIfInBounds_toArray, List.set_cons_zero, List.set_cons_succ]
        refine helds_one (i := 4) rfl (by kernel_rfl) rfl (fun K hK => ?_)
        refine wp_valD (d := some 28) (v := .slice P1 p1n pc) rfl ?_ ?_
        · have k := K0.out
          clear hK K
          simp [execOp, go_sem, k]
          done
        refine hK.out _ _ trivial (fun _ => ?_)
        clear hK K
        try simp only [Act.put, List.setIfInBounds_toArray, List.set_cons_zero, List.set_cons_succ]
        refine helds_one (i := 8) rfl (by kernel_rfl) rfl (fun K hK => ?_)
        refine wp_appB (d := some 32) byteT rfl (.tmp 28) (.tmp 31) rfl RDd.out.2.2 DTd.out rfl (by rw [DTL.out]; rfl) (by rw [DTL.out]; have := P1L.out; have := DML.out; omega) (by have := RDd.out.lt; omega) ?_
        intro v2 w2 hown2 hg2 hat2
        have O2 := Lib.hid hown2
        have G2 := Lib.hid hg2
        have A2 := Lib.hid hat2
        have R2 := Lib.hid (show CB w2 r 80 [.slice P1 p1n pc, .int .i64 0] from (hg2.block r RDd.out.lt.2 (fun e => (RDd.out.vlt r e.symm).2.2 rfl)).trans RDd.out.2.1)
        clear hown2 hg2 hat2
        refine hK.out _ _ trivial (fun _ => ?_)
        clear hK K
        try simp only [Act.put, List.setIfInBounds_toArray, List.set_cons_zero, List.set_cons_succ]
        refine helds_take (i := 9) (d := some 33) (v := ?vf4_8) trivial rfl rfl (by kernel_rfl) (fun _ _ _ h => h) ?yf4_8 ?_; case yf4_8 => (refine Or.inl ⟨rfl, fun wx hS => ?_⟩; go_simp; try with_reducible rfl)
        try simp only [Act.put, List.setIfInBounds_toArray, List.set_cons_zero, List.set_cons_succ]
        refine helds_take (i := 10) (d := some 34) (v := ?vf4_9) trivial rfl rfl (by kernel_rfl) (fun _ _ _ h => h) ?yf4_9 ?_; case yf4_9 => (refine Or.inl ⟨rfl, fun wx hS => ?_⟩; go_simp; try with_reducible rfl)
        try simp only [Act.put, List.setIfInBounds_toArray, List.set_cons_zero, List.set_cons_succ]
        refine helds_one (i := 11) rfl (by kernel_rfl) rfl (fun K hK => ?_)
        refine wp_storeC (d := none) (off := 0) (p := [v2]) szB rfl (.tmp 34) (.tmp 32) rfl v2 (by obtain ⟨_, _, hx, _⟩ := O2.out.shape; rw [hx]; rfl) (fun u hu => by rw [List.mem_singleton.1 hu]; obtain ⟨_, _, hx, _⟩ := O2.out.shape; rw [hx]; rfl) R2.out rfl (by simp) rfl rfl ?_
        intro w3 h3 g3
        have C3 := Lib.hid h3
        have G3 := Lib.hid g3
        clear h3 g3
        refine hK.out _ _ trivial (fun _ => ?_)
        clear hK K
        try simp only [Act.put]
        refine held_end (by kernel_rfl) ?_ _
        skip
        have MD := Lib.hid (MM.out.next (MDW.out (rdS r v)) (fun _ _ h => h))
        have C3b := Lib.hid (show CB w3 r 80 [v2, .int .i64 0] from C3.out)
        have DCd := Lib.hid (show RB wd w.heap.size (some qa) (d.drop m) (c - m) from (DC.out.mod (MDW.out (fun _ => False)) (by have := MM.out.size; omega) (fun _ _ h => h)))
        have APc := Lib.hid (show Apart (some qa) (d.drop m) r (.slice P1 p1n pc) from AP.out.cut (fun bb hbb hl => ⟨by rw [List.length_drop] at hl; omega, ⟨b, off, none⟩, rfl, by injection hbb with hbb; rw [← hbb]; exact QB.out⟩))
        have hst3 := feed_step HRW.out MD.out RDd.out V1.out (OF.out.mod (MDW.out (fun _ => False)) (fun _ _ h => h) (fun _ _ _ _ h => h)) DCd.out APc.out O2.out G2.out A2.out C3b.out G3.out
        rw [← HQ.out] at hst3
        obtain ⟨r3, m3, v3, of3, dc3, ap3⟩ := hst3
        have R3 := Lib.hid r3
        have M3 := Lib.hid m3
        have V3 := Lib.hid v3
        have OF3 := Lib.hid of3
        have DC3 := Lib.hid dc3
        have AP3 := Lib.hid ap3
        have DLN := Lib.hid (show (d.drop m).length = dn - m by rw [List.length_drop, DN.out])
        have FA := Lib.hid (fun W (k : Dr w3 W) => fault_any W base r _ q 0 (R3.out.dr k) (by have := HQL.out; omega) HQL.out.1)
        have LA := Lib.hid (fun W (k : Dr w3 W) => lacks_any W base r _ q 0 (R3.out.dr k) (by have := HQL.out; omega))
        clear r3 m3 v3 of3 dc3 ap3 LK D1 RD1 DW RDd K0 MDW DTd DC DT OF AP V1 MM O2 G2 A2 R2 C3 G3 MD DCd APc hL k0 k1 hb
        by_cases hf : faultN q = 0
        · have hwh := HWH.out hf
          have hin := HIN.out hf
          rw [hf] at FA
          by_cases hl : lacksN q = 0
          · obtain ⟨hq3, hsq⟩ := hwh hl
            have HQ3 := Lib.hid hq3
            have HSQ := Lib.hid hsq
            rw [hl] at LA
            have WH := Lib.hid (fun W (k : Dr w3 W) => whole_any W base r _ q 0 (R3.out.dr k) hq3 (by have := HQL.out; omega))
            clear hwh hin hq3 hsq HFA hf hl
            obtain ⟨ch, hch⟩ : ∃ ch, ((q.headD 0).toNat : Int) = ch := ⟨_, rfl⟩
            obtain ⟨bn, hbn⟩ : ∃ bn, (q.drop 3).length = bn := ⟨_, rfl⟩
            have HBN := Lib.hid hbn
            rw [hch] at HSQ WH
            rw [hbn] at WH
            clear hch hbn
            go_wp2_with (first
              | (go_at_call 43; refine (FA.out _ (Dr.refl _)).mono ?_; rintro e w4 ⟨rfl, d4⟩; have D4 := Lib.hid d4; clear d4)
              | (go_at_call 42; refine (LA.out _ D4.out).mono ?_; rintro e w5 ⟨rfl, d5⟩; have D5 := Lib.hid (D4.out.trans d5); clear d5)
              | (go_at_call 44; refine (WH.out _ D5.out).mono ?_; rintro e w6 ⟨A6, c6, v6, rfl, o6, hv6, r6, g6⟩; have W6 := Lib.hid (feed_whole (c := c - m) (d := d.drop m) HRW.out (M3.out.next (Mod.made (D5.out.made none)) (fun _ _ h => h)) (R3.out.dr D5.out) (OF3.out.none_ (D5.out.made none)) (DC3.out.mod (Mod.made (S := fun _ => False) (D5.out.made none)) M3.out.size (fun _ _ h => h)) AP3.out o6 hv6 r6 g6 (grown_alloc w6 (.cells #[.int .i64 ch, .slice A6 bn c6] 24) none)); have HV6 := Lib.hid hv6; have N6 := Lib.hid (heap_alloc_new w6 (.cells #[.int .i64 ch, .slice A6 bn c6] 24)); clear o6 hv6 r6 g6)
              | (at_builtin; refine wpList_appF (f := (ch, q.drop 3)) rfl (.tmp 52) (.tmp 55) rfl W6.out.1 W6.out.2.1 W6.out.2.2.1 (ad := ⟨w6.heap.size, 0, none⟩) (c := 1) (cell_of_row _ _ _ _ _ (0, 0) N6.out) (cell_of_row _ _ _ _ _ (0, 0) N6.out) (by first | rfl | go_simp) (by first | rfl | go_simp) (by have := HAC.out; omega) W6.out.2.2.2.1 ?_; intro v8 w8 o8 g8 a8; have O8 := Lib.hid o8; have P8 := Lib.hid (W6.out.2.2.2.2 w8 g8); clear o8 g8 a8))
            go_roundw
            case rel =>
              obtain ⟨p1', p2', p3', p4'⟩ := P8.out
              refine ⟨some qa, d.drop m, c - m, acc ++ [(ch, q.drop 3)], v6, [], 0, by rw [DLN.out], by have := HDL.out; have := DN.out; have := DLN.out; omega, p3', p4', O8.out, by rw [List.length_append, DLN.out]; have := HAC.out; have := DN.out; simp; omega, p1', p2', fun g hg => V3.out g (by rw [← HV6.out, hg]), .inl ⟨rfl, .inl rfl, ?_⟩⟩
              rw [HSC.out, HSQ.out]
              simp
            case measure => simp [lenV]; omega
          · have HIN2 := Lib.hid (hin hl)
            have hln : (lacksN q == 0) = false := by rw [beq_eq_false_iff_ne]; exact hl
            clear hwh hin HFA hf hl
            generalize lacksN q = lq at *
            go_wp2_with (first
              | (go_at_call 43; refine (FA.out _ (Dr.refl _)).mono ?_; rintro e w4 ⟨rfl, d4⟩; have D4 := Lib.hid d4; clear d4)
              | (go_at_call 42; refine (LA.out _ D4.out).mono ?_; rintro e w5 ⟨rfl, d5⟩; have D5 := Lib.hid (D4.out.trans d5); clear d5))
            go_roundw
            case rel =>
              refine ⟨some qa, d.drop m, c - m, acc, v2, q, 0, by rw [DLN.out], by have := HDL.out; have := DN.out; have := DLN.out; omega, DC3.out.mod (Mod.made (S := fun _ => False) (D5.out.made none)) M3.out.size (fun _ _ h => h), AP3.out, OF3.out.none_ (D5.out.made none), by rw [DLN.out]; have := HAC.out; have := DN.out; omega, R3.out.dr D5.out, M3.out.next (Mod.made (D5.out.made none)) (fun _ _ h => h), V3.out, .inl ⟨rfl, HIN2.out, ?_⟩⟩
              rw [HSC.out, HHI.out]
            case measure => simp [lenV]; omega
        · have hfq := HFA.out hf
          have hfn : (faultN q == 0) = false := by rw [beq_eq_false_iff_ne]; exact hf
          have HFQ := Lib.hid hfq
          have HF := Lib.hid hf
          clear hfq hf HFA HWH HIN LA
          generalize faultN q = fq at *
          go_wp2_with (first
            | (go_at_call 43; refine (FA.out _ (Dr.refl _)).mono ?_; rintro e w4 ⟨rfl, d4⟩; have D4 := Lib.hid d4; clear d4; have R4 := Lib.hid (R3.out.dr D4.out))
            | (refine wpList_storeC (off := 0) (p := [.slice none 0 0]) szB rfl (.tmp 46) (.const (.slice none 0 0)) rfl (.slice none 0 0) rfl (fun u hu => by rw [List.mem_singleton.1 hu]; rfl) R4.out.2.1 rfl (by simp) (by first | rfl | go_simp) rfl ?_; intro w5 h5 g5; have h5 : CB w5 r 80 [.slice none 0 0, .int .i64 0] := h5; have C5 := Lib.hid h5; have G5 := Lib.hid g5; clear h5 g5)
            | (refine wpList_setC (off := 1) szE rfl (.tmp 48) (.tmp 44) rfl .i64 fq C5.out (by simp) (by first | rfl | go_simp) (by first | rfl | go_simp) ?_; intro w6 h6 g6; have h6 : CB w6 r 80 [.slice none 0 0, .int .i64 fq] := h6; have C6 := Lib.hid h6; have G6 := Lib.hid g6; clear h6 g6))
          simp only [Act.put]
          go_roundw
          case rel =>
            have g456 : w3.grownBy w6 (some r) := grown_trans' (grown_trans' (D4.out.made (some r)) G5.out) G6.out
            have m6 := M3.out.grown g456 (fun z hz hlt => by injection hz with hz; exact .inl hz.symm)
            have mr : Mod (fun k => some k = some r) w3 w6 := Mod.of_grown g456
            refine ⟨some qa, d.drop m, c - m, acc, .slice none 0 0, [], fq, by rw [DLN.out], by have := HDL.out; have := DN.out; have := DLN.out; omega, DC3.out.apart (fun a hA hl => mr.block a.block (by have := DC3.out.blk a hA hl; have := M3.out.size; omega) (fun e => (AP3.out a hA hl).1 (by injection e))) (Nat.le_refl _), fun a hA hl => ⟨(AP3.out a hA hl).1, by simp [Value.ownBlock]⟩,
              (OF3.out.mod mr (fun g hg e => by have := (OF3.out.lt g hg).1; have := HRW.out; injection e with e; omega) (fun g hk hb hlt e => by have := HRW.out; injection e with e; omega)).mono (fun g _ _ _ => by simp [Value.ownBlock]), by rw [DLN.out]; have := HAC.out; have := DN.out; omega, RD.dropped R3.out.1 C6.out, m6, fun g hg => by simp [Value.ownBlock] at hg, .inr ⟨HF.out, rfl, ?_⟩⟩
            rw [HSC.out, HFQ.out]
          case measure => simp [lenV]; omega
      · have hfe : feedF part 0 l = ([], [], e1) := by
          unfold feedF
          rw [if_neg (by simp), if_pos (by rw [hsc]; exact he1), hsc]
        have hne : (e1 == 0) = false := by rw [beq_eq_false_iff_ne]; exact he1
        have HFE := Lib.hid hfe
        have RDe := Lib.hid hR
        have MM := Lib.hid hM
        have V1 := Lib.hid hv1
        have hdi : (0 : Int) < (d.length : Int) := by omega
        clear hrd hap hof hac hR hM hv1 hsc hpr hdl he1 hfe
        subst hp1
        go_wp2
        go_quiet (fail)
        go_wp2
        go_ret2
        rw [HFE.out]
        exact ⟨_, _, rfl, OwnF.nil_ _ _ _, RDe.out.dr ⟨nq, rfl⟩, MM.out.next (Mod.made (Dr.made ⟨nq, rfl⟩ none)) (fun _ _ h => h), V1.out⟩
    · obtain rfl : d = [] := List.eq_nil_of_length_eq_zero (by omega)
      rcases hst with ⟨rfl, hinc, hsc⟩ | ⟨he1, hp1, hsc⟩
      · have hfe : feedF part 0 l = (acc, p1, 0) := by
          rw [List.append_nil, scan_inc hinc] at hsc
          unfold feedF
          rw [if_neg (by simp), if_neg (by rw [hsc]; simp), hsc]
          simp
        have HFE := Lib.hid hfe
        have RDe := Lib.hid hR
        have MM := Lib.hid hM
        have V1 := Lib.hid hv1
        have OF := Lib.hid hof
        clear hrd hap hof hac hR hM hv1 hsc hpr hdl hfe hinc
        go_wp2
        go_ret2
        rw [HFE.out]
        exact ⟨_, _, rfl, OF.out, RDe.out, MM.out, V1.out⟩
      · have hfe : feedF part 0 l = ([], [], e1) := by
          unfold feedF
          rw [if_neg (by simp), if_pos (by rw [hsc]; exact he1), hsc]
        have hne : (e1 == 0) = false := by rw [beq_eq_false_iff_ne]; exact he1
        have HFE := Lib.hid hfe
        have RDe := Lib.hid hR
        have MM := Lib.hid hM
        have V1 := Lib.hid hv1
        clear hrd hap hof hac hR hM hv1 hsc hpr hdl he1 hfe
        subst hp1
        go_wp2
        go_quiet (fail)
        go_wp2
        go_ret2
        rw [HFE.out]
        exact ⟨_, _, rfl, OwnF.nil_ _ _ _, RDe.out.dr ⟨nq, rfl⟩, MM.out.next (Mod.made (Dr.made ⟨nq, rfl⟩ none)) (fun _ _ h => h), V1.out⟩

set_option maxHeartbeats 1000000 in
theorem feed_shut (w : World) (base r : Nat) (v : Value) (e1 : Int) (h : RD w base r v [] e1) (he1 : e1 ≠ 0) (A : Option Addr) (n cap : Nat) :
    Calls Try.prog 15 #[.pointer (some ⟨r, 0, none⟩), .slice A n cap] w fun e' w' => e' = .returned (.tuple #[.slice none 0 0, .int .i64 e1]) ∧ Dr w w' := by
  obtain ⟨P1, pc, rfl, -, -⟩ := h.2.2.shape
  have k0 : w.cell? ⟨r, 0, none⟩ = some (.slice P1 0 pc) := h.2.1.at_ rfl
  have k1 : w.cell? ⟨r, 1, none⟩ = some (.int .i64 e1) := h.2.1.at_ rfl
  have hne : (e1 == 0) = false := by rw [beq_eq_false_iff_ne]; exact he1
  clear h he1
  by_cases hn : 0 < n
  · have hni : (0 : Int) < (n : Int) := by omega
    go_enter Try.func15, Try.ntmps15
    go_wp2
    go_loopw [1, 6, 7, 8] (fun s1 _ _ _ wr => s1 = .slice A n cap ∧ wr = w) (fun s1 _ _ _ _ => lenV s1)
    case atStart => exact ⟨rfl, rfl⟩
    case round =>
      obtain ⟨rfl, rfl⟩ := hrel
      go_wp2
      go_quiet (fail)
      go_wp2
      go_ret2
      exact ⟨rfl, nq, rfl⟩
  · obtain rfl : n = 0 := by omega
    go_enter Try.func15, Try.ntmps15
    go_wp2
    go_loopw [1, 6, 7, 8] (fun s1 _ _ _ wr => s1 = .slice A 0 cap ∧ wr = w) (fun s1 _ _ _ _ => lenV s1)
    case atStart => exact ⟨rfl, rfl⟩
    case round =>
      obtain ⟨rfl, rfl⟩ := hrel
      go_wp2
      go_quiet (fail)
      go_wp2
      go_ret2
      exact ⟨rfl, nq, rfl⟩
end Go.Proofs.Ytajfaplaaafjiaa
