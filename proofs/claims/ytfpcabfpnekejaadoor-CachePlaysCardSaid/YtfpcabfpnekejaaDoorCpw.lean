/- The walk of the law CachePlays. -/
import Derived.Test.YtfpcabfpnekejaaDoorCpx
namespace Go.Proofs.YtfpcabfpnekejaaDoor
open Go.RowKit Go.Maps Go.WideMaps

set_option maxRecDepth 10000 in
set_option maxHeartbeats 4000000 in
theorem cplays_great (w : World) (hM : ML w) (A : Option Addr) (l : List Op11) (n cap : Nat) (hn : l.length = n) (hA : SR w w.heap.size A 26 (l.map op11C) cap) (hl : ∀ o ∈ l, op11W w o) (hg : greatO11 l = true) :
    Calls Tryd.prog 3 #[.slice A n cap] w fun x w' => x = .returned (.bool true) ∧ w.grownBy w' none := by
  have HM := Lib.hid hM
  have HN := Lib.hid hn
  have HA := Lib.hid hA
  have HL := Lib.hid hl
  have HGE := Lib.hid hg
  clear hM hn hA hl hg
  go_enter Tryd.func3, Tryd.ntmps3
  go_wp2_with (first
    | (go_at_call 4; refine (cspeaks_any _ HM.out).mono ?_; rintro x wa ⟨rfl, ga⟩; have GA := Lib.hid ga; clear ga)
    | (go_at_call 5; refine (cgreat_any _ w A l n cap w.heap.size HN.out (HA.out.made GA.out (Nat.le_refl _)) GA.out.size HL.out).mono ?_; rintro x wb ⟨rfl, gb⟩; rw [HGE.out]; have GB := Lib.hid (grown_trans' GA.out gb); clear gb))
  go_ret
  exact ⟨rfl, GB.out⟩
set_option maxRecDepth 10000 in
set_option maxHeartbeats 4000000 in
theorem cplays_in (w : World) (hM : ML w) (A : Option Addr) (l : List Op11) (n cap : Nat) (hn : l.length = n) (hA : SR w w.heap.size A 26 (l.map op11C) cap) (hl : ∀ o ∈ l, op11W w o) (hg : greatO11 l = false) :
    Calls Tryd.prog 3 #[.slice A n cap] w fun x w' => x = .returned (.bool true) ∧ w.grownBy w' none := by
  have HM := Lib.hid hM
  have HN := Lib.hid hn
  have HA := Lib.hid hA
  have HL := Lib.hid hl
  have HGE := Lib.hid hg
  have N0 := Lib.hid (show n ≤ 60 by rw [← hn]; exact great_len11 hg)
  clear hM hn hA hl hg
  go_enter Tryd.func3, Tryd.ntmps3
  go_wp2_with (first
    | (go_at_call 4; refine (cspeaks_any _ HM.out).mono ?_; rintro x wa ⟨rfl, ga⟩; have GA := Lib.hid ga; clear ga)
    | (go_at_call 5; refine (cgreat_any _ w A l n cap w.heap.size HN.out (HA.out.made GA.out (Nat.le_refl _)) GA.out.size HL.out).mono ?_; rintro x wb ⟨rfl, gb⟩; rw [HGE.out]; have GB := Lib.hid (grown_trans' GA.out gb); clear gb)
    | (go_at_call 6; refine (cnew_any _).mono ?_; rintro x w1 ⟨rfl, h1, g1⟩; have H1 := Lib.hid h1; have G1 := Lib.hid (grown_trans' GB.out g1); clear h1 g1))
  obtain ⟨c, hc⟩ : ∃ c, wb.heap.size + 1 = c := ⟨_, rfl⟩
  obtain ⟨b, hb⟩ : ∃ b, wb.heap.size = b := ⟨_, rfl⟩
  have hwb := GB.out.size
  rw [hc, hb] at H1
  rw [hc]
  have HD1 := Lib.hid (show LC (w1.alloc (.cells #[.slice none 0 0] 30)) w1.heap.size w1.heap.size [] from ⟨Nat.le_refl _, ⟨_, CB.new w1 _ [.slice none 0 0], RowX.nil_ _ _ _ _⟩, (fun x hx => by cases hx), by simp⟩)
  have HS1 := Lib.hid (H1.out.none (grown_alloc w1 (.cells #[.slice none 0 0] 30) none))
  have HG1 := Lib.hid (grown_trans' G1.out (grown_alloc w1 (.cells #[.slice none 0 0] 30) none))
  have HCE := Lib.hid (show w.heap.size ≤ b ∧ c < w1.heap.size ∧ b < w1.heap.size ∧ w.heap.size ≤ w1.heap.size from ⟨by omega, H1.out.1.lt, H1.out.2.1.lt, G1.out.size⟩)
  obtain ⟨m, hm⟩ : ∃ m, w1.heap.size = m := ⟨_, rfl⟩
  rw [hm] at HD1 HCE
  rw [hm]
  clear hc hb hm hwb
  go_loopw [26] (fun v wr => ∃ (k : Nat) (M : Cm) (E : List Ce), k ≤ n ∧ v = .int .i64 k ∧ RelC M E ∧ KS wr c b M ∧ LC wr m m E ∧ HiM m M ∧ (∀ y ∈ E, ∃ o ∈ l, y = o.2.2.2) ∧ w.grownBy wr none) (fun v _ => n - (intOf v).toNat)
  case atStart => exact ⟨0, [], [], Nat.zero_le _, rfl, RelC.nil_, HS1.out, HD1.out, (fun q hq => by cases hq), (fun y hy => by cases hy), HG1.out⟩
  case round =>
    obtain ⟨k, M, E, hk, rfl, hrel, hS, hD, hHi, hEI, hW⟩ := hrel
    have HREL := Lib.hid hrel
    have HS := Lib.hid hS
    have HD := Lib.hid hD
    have HW := Lib.hid hW
    have HHI := Lib.hid hHi
    have HEI0 := Lib.hid hEI
    have HNM := Lib.hid hS.2.2.2.named
    have HLM := Lib.hid (show M.length ≤ 8 by rw [hrel.len]; exact hD.2.2.2)
    have hn0 := N0.out
    by_cases hlt : k < n
    · obtain ⟨o, ho⟩ : ∃ o, o = l[k]'(by rw [HN.out]; exact hlt) := ⟨_, rfl⟩
      obtain ⟨ab, ao, hAe, hab, hcells⟩ := HA.out.elem (k := k) (by rw [List.length_map, HN.out]; exact hlt)
      have HOM := Lib.hid (show o ∈ l by rw [ho]; exact List.getElem_mem _)
      have HOW := Lib.hid (show op11W w o from HL.out _ HOM.out)
      have hok := great_ok11 HGE.out HOM.out HOW.out
      have HLN := Lib.hid (show o.2.2.1.length ≤ 1000 from Nat.le_trans hok.2 (by omega))
      have HOO := Lib.hid hok.1
      have hce : (l.map op11C)[k]'(by rw [List.length_map, HN.out]; exact hlt) = op11C o := by rw [List.getElem_map, ho]
      rw [hce] at hcells
      have HCELL := Lib.hid (show ∀ j v, (op11C o)[j]? = some v → wr.cell? ⟨ab, ao + 26 * k + j, none⟩ = some v from fun j v hj => ((below_of_none HW.out).cell (p := ⟨ab, _, none⟩) hab).trans (hcells j v hj))
      have hmw : m < wr.heap.size := by obtain ⟨v, hv, -⟩ := hD.2.1; exact hv.lt
      have HGO := Lib.hid (show wr.heap.size ≠ b ∧ wr.heap.size ≠ m from ⟨fun e => by have := hS.2.1.lt; omega, fun e => by omega⟩)
      have TK5 := Lib.hid True.intro
      subst hAe
      clear hce hcells ho hab hS hD hW hrel hHi hEI hok
      have HB1 := Lib.hid (CB.new wr 40 zeroO11)
      have hand := b64_and3c o.1
      by_cases h4 : o.1 % 4 = 0
      · rw [h4] at hand
        clear h4
        go_wp2_with (first
          | (have hx := TK5; clear hx TK5; refine wpList_loadX (p := op11C o) aggO11 rfl (.tmp 28) rfl (b := ab) (off := ao + 26 * k) HCELL.out (op11C_len HOW.out) (by first | rfl | go_simp) ?_; have TK6 := Lib.hid True.intro)
          | (have hx := TK6; clear hx TK6; refine wpList_allocC zeroO11_run rfl rfl ?_; have TK7 := Lib.hid True.intro)
          | (have hx := TK7; clear hx TK7; refine wpList_storeC (off := 0) (p := op11C o) aggO11.hi rfl (.tmp 6) (.tmp 29) rfl (.agg (op11C o).toArray) rfl (op11C_one o) HB1.out (op11C_len HOW.out) (by rw [zeroO11_length]; omega) (by first | rfl | go_simp) (by first | rfl | go_simp) ?_; intro w3 h3 g3; rw [over_all _ _ (Nat.le_of_eq (by rw [zeroO11_length, op11C_len HOW.out]))] at h3; have O3 := Lib.hid h3; have W3' := Lib.hid (none_new (grown_alloc wr (.cells zeroO11.toArray 40) none) g3 (Nat.le_refl _)); have W2 := Lib.hid (grown_trans' HW.out W3'.out); have S2 := Lib.hid (HS.out.none W3'.out); have D2 := Lib.hid (HD.out.none W3'.out); have q0 := h3.at_ (op11C_server o); have qk := h3.at_ (op11C_k o); clear h3 g3; have TK8 := Lib.hid True.intro))
        clear q0 qk hand
        obtain ⟨go, hgo⟩ : ∃ g, wr.heap.size = g := ⟨_, rfl⟩
        rw [hgo] at O3 HGO
        rw [hgo]
        clear hgo hmw
        obtain ⟨bq, hbq⟩ : ∃ q, (dropD E o.2.2.1).2 = q := ⟨_, rfl⟩
        have HBE := Lib.hid hbq
        have hdr := HREL.out.drop (n := o.2.2.1) HNM.out
        have HR2 := Lib.hid hdr.1
        have HBQ := Lib.hid (show bq = true ↔ o.2.2.1 ∈ keysM M by rw [← hbq]; exact hdr.2)
        have HBB := Lib.hid (show (bq == bq) = true from beq_self_eq_true _)
        clear hbq hdr
        obtain ⟨M2, hM2⟩ : ∃ M2, withoutM M o.2.2.1 = M2 := ⟨_, rfl⟩
        rw [hM2] at HR2
        have HM2 := Lib.hid hM2
        have HHI2 := Lib.hid (show HiM m M2 from fun q hq => HHI.out q (by rw [← hM2] at hq; exact (List.mem_filter.1 hq).1))
        refine region_byT (n := 9) (ds := [some 34, some 35, some 36, some 37, some 38, some 39, some 40, some 41, some 42]) (CpwTd b m) (CpwGd w c b m go M M2 E (dropD E o.2.2.1).1 o) (CpwFd o c m go bq) (by kernel_rfl) (by kernel_rfl) rfl (by kernel_rfl) (fun i j v x y _ _ _ h => CpwFd.kept j v x y h) ⟨(fun _ => S2.out), (fun h => by cases h), (fun _ => D2.out), (fun h => by cases h), O3.out, grown_drew W2.out⟩ ⟨⟨⟨⟨⟨⟨⟨⟨⟨trivial, ?_⟩, ?_⟩, ?_⟩, ?_⟩, ?_⟩, ?_⟩, ?_⟩, ?_⟩, ?_⟩ ?_
        · refine Inv.dutyT_plain rfl rfl (fun L vs a x l0 hG dep up val ev out K hK => ?_)
          have e3 : a.eval (.tmp 3) = .pointer (some ⟨c, 0, none⟩) := (out 3 (Inv.ne_of_outB (by kernel_rfl))).trans rfl
          refine Inv.wp_value (v := .pointer (some ⟨c, 0, none⟩)) ?_ (hK.out _ _ rfl (CpwGd.more (i := 0) (by omega) (by omega) hG) rfl)
          clear hG hK K dep up val ev out l0
          generalize a.eval = ρ at *
          (simp [execOp, go_sem, *]; done)
        · refine Inv.dutyT_plain rfl rfl (fun L vs a x l0 hG dep up val ev out K hK => ?_)
          have e6 : a.eval (.tmp 6) = .pointer (some ⟨go, 0, none⟩) := (out 6 (Inv.ne_of_outB (by kernel_rfl))).trans rfl
          refine Inv.wp_value (v := .pointer (some ⟨go, 2, none⟩)) ?_ (hK.out _ _ rfl (CpwGd.more (i := 1) (by omega) (by omega) hG) rfl)
          clear hG hK K dep up val ev out l0
          generalize a.eval = ρ at *
          (simp [execOp, go_sem, *]; done)
        · refine Inv.dutyT_plain rfl rfl (fun L vs a x l0 hG dep up val ev out K hK => ?_)
          have L35 := dep 1 (by kernel_rfl)
          have e35 : a.eval (.tmp 35) = .pointer (some ⟨go, 2, none⟩) := (ev 1 35 L35 (by kernel_rfl)).trans (val 1 L35)
          have q0 := hG.2.2.2.2.1.at_ (op11C_server o)
          refine Inv.wp_value (v := .string ⟨o.2.2.1.toArray⟩) ?_ (hK.out _ _ rfl (CpwGd.more (i := 2) (by omega) (by omega) hG) rfl)
          clear hG hK K dep up val ev out l0
          generalize a.eval = ρ at *
          (simp [execOp, go_sem, *]; done)
        · refine Inv.dutyT_plain rfl rfl (fun L vs a x l0 hG dep up val ev out K hK => ?_)
          have ef : ∀ f, a.eval (.func f) = .func (.func f) #[] #[] := fun _ => rfl
          have L34 := dep 0 (by kernel_rfl)
          have e34 : a.eval (.tmp 34) = .pointer (some ⟨c, 0, none⟩) := (ev 0 34 L34 (by kernel_rfl)).trans (val 0 L34)
          have L36 := dep 2 (by kernel_rfl)
          have e36 : a.eval (.tmp 36) = .string ⟨o.2.2.1.toArray⟩ := (ev 2 36 L36 (by kernel_rfl)).trans (val 2 L36)
          refine Inv.wp_call (by clear hG hK K dep up val ev out l0; generalize a.eval = ρ at *; (simp [execOp, go_sem, strV, *]; done)) ((cdrop_any o.2.2.1 HLN.out x c b M (hG.1 l0) bq HBQ.out).mono ?_)
          rw [HM2.out]
          rintro e w' ⟨rfl, h3, g3⟩
          exact ⟨_, rfl, hK.out _ _ g3 (CpwGd.first HGO.out.1 HCE.out.1 l0 h3 g3 hG) rfl⟩
        · refine Inv.dutyT_plain rfl rfl (fun L vs a x l0 hG dep up val ev out K hK => ?_)
          have e4 : a.eval (.tmp 4) = .pointer (some ⟨m, 0, none⟩) := (out 4 (Inv.ne_of_outB (by kernel_rfl))).trans rfl
          refine Inv.wp_value (v := .pointer (some ⟨m, 0, none⟩)) ?_ (hK.out _ _ rfl (CpwGd.more (i := 4) (by omega) (by omega) hG) rfl)
          clear hG hK K dep up val ev out l0
          generalize a.eval = ρ at *
          (simp [execOp, go_sem, *]; done)
        · refine Inv.dutyT_plain rfl rfl (fun L vs a x l0 hG dep up val ev out K hK => ?_)
          have e6 : a.eval (.tmp 6) = .pointer (some ⟨go, 0, none⟩) := (out 6 (Inv.ne_of_outB (by kernel_rfl))).trans rfl
          refine Inv.wp_value (v := .pointer (some ⟨go, 2, none⟩)) ?_ (hK.out _ _ rfl (CpwGd.more (i := 5) (by omega) (by omega) hG) rfl)
          clear hG hK K dep up val ev out l0
          generalize a.eval = ρ at *
          (simp [execOp, go_sem, *]; done)
        · refine Inv.dutyT_plain rfl rfl (fun L vs a x l0 hG dep up val ev out K hK => ?_)
          have L39 := dep 5 (by kernel_rfl)
          have e39 : a.eval (.tmp 39) = .pointer (some ⟨go, 2, none⟩) := (ev 5 39 L39 (by kernel_rfl)).trans (val 5 L39)
          have q0 := hG.2.2.2.2.1.at_ (op11C_server o)
          refine Inv.wp_value (v := .string ⟨o.2.2.1.toArray⟩) ?_ (hK.out _ _ rfl (CpwGd.more (i := 6) (by omega) (by omega) hG) rfl)
          clear hG hK K dep up val ev out l0
          generalize a.eval = ρ at *
          (simp [execOp, go_sem, *]; done)
        · refine Inv.dutyT_plain rfl rfl (fun L vs a x l0 hG dep up val ev out K hK => ?_)
          have ef : ∀ f, a.eval (.func f) = .func (.func f) #[] #[] := fun _ => rfl
          have L38 := dep 4 (by kernel_rfl)
          have e38 : a.eval (.tmp 38) = .pointer (some ⟨m, 0, none⟩) := (ev 4 38 L38 (by kernel_rfl)).trans (val 4 L38)
          have L40 := dep 6 (by kernel_rfl)
          have e40 : a.eval (.tmp 40) = .string ⟨o.2.2.1.toArray⟩ := (ev 6 40 L40 (by kernel_rfl)).trans (val 6 L40)
          refine Inv.wp_call (by clear hG hK K dep up val ev out l0; generalize a.eval = ρ at *; (simp [execOp, go_sem, *]; done)) ((crefDrop_any x m m E (hG.2.2.1 l0) o.2.2.1).mono ?_)
          rintro e w' ⟨rfl, h3, g3⟩
          exact ⟨_, rfl, hK.out _ _ g3 (CpwGd.second HCE.out.2.1 HCE.out.2.2.1 HCE.out.2.2.2 HGO.out.2 HHI.out HHI2.out h3 g3 hG) (by rw [HBE.out]; rfl)⟩
        · refine Inv.dutyT_plain rfl rfl (fun L vs a x l0 hG dep up val ev out K hK => ?_)
          have L37 := dep 3 (by kernel_rfl)
          have e37 : a.eval (.tmp 37) = .bool bq := (ev 3 37 L37 (by kernel_rfl)).trans (val 3 L37)
          have L41 := dep 7 (by kernel_rfl)
          have e41 : a.eval (.tmp 41) = .bool bq := (ev 7 41 L41 (by kernel_rfl)).trans (val 7 L41)
          have hbb := HBB.out
          refine Inv.wp_value (v := .bool false) ?_ (hK.out _ _ rfl (CpwGd.more (i := 8) (by omega) (by omega) hG) rfl)
          clear hG hK K dep up val ev out l0
          generalize a.eval = ρ at *
          (simp [execOp, go_sem, *]; done)
        intro vs L w6 hL hG hv
        have hZ : vs 8 = .bool false := hv 8 (by omega)
        simp only [Inv.putAll, Act.put, List.setIfInBounds_toArray, List.set_cons_zero, List.set_cons_succ, Nat.zero_add, Nat.reduceAdd]
        rw [hZ]
        have S6 := Lib.hid (hG.2.1 (hL 3 (by omega)))
        obtain ⟨E2, hE2⟩ : ∃ E2, (dropD E o.2.2.1).1 = E2 := ⟨_, rfl⟩
        have hd6 := hG.2.2.2.1 (hL 7 (by omega))
        rw [hE2] at hd6
        have RL := Lib.hid (show RelC M2 E2 by rw [← hE2]; exact HR2.out)
        have HEI := Lib.hid (show ∀ y ∈ E2, ∃ o ∈ l, y = o.2.2.2 from fun y hy => HEI0.out y (dropD_mem (by rw [hE2]; exact hy)))
        have D6 := Lib.hid hd6
        have W6 := Lib.hid hG.2.2.2.2.2
        have OB6 := Lib.hid hG.2.2.2.2.1
        have HHIM2 := Lib.hid HHI2.out
        clear hv hZ hG hL hd6 hM2 HM2 hE2
        obtain ⟨y, hy⟩ : ∃ y, (findD E2 o.2.2.1 o.2.1).getD zeroCe = y := ⟨_, rfl⟩
        obtain ⟨bx, hbx0⟩ : ∃ b, (findD E2 o.2.2.1 o.2.1).isSome = b := ⟨_, rfl⟩
        have HY := Lib.hid hy
        have HBX := Lib.hid hbx0
        have HYW := Lib.hid (show cdW y.1 by rcases findD_in hy with rfl | h; exact zeroCd_w; exact (D6.out.2.2.1 y h).w)
        have HLY := Lib.hid (show ∀ A c, (cdC y.1 A c).length = 23 from fun A c => cdC_length HYW.out.lk A c)
        have YBT := Lib.hid (show ∀ W, w.grownBy W none → RB W W.heap.size y.2.1 y.1.tk y.2.2 from fun W hW => by
          rcases findD_in hy with rfl | h
          · exact RB.nil_ _ _
          · obtain ⟨o', ho', rfl⟩ := HEI.out y h
            exact (HL.out o' ho').r.keptC hW)
        have hbx : (bx == bx) = true := beq_self_eq_true _
        obtain ⟨n9, hn9⟩ : ∃ n, E2.length = n := ⟨_, rfl⟩
        have HN9E := Lib.hid hn9
        have HN9 := Lib.hid (show n9 ≤ 8 by rw [← hn9]; exact D6.out.2.2.2)
        have HLM2 := Lib.hid (show M2.length ≤ 8 by rw [RL.out.len, hn9]; exact HN9.out)
        have TK0 := Lib.hid True.intro
        have q0 := OB6.out.at_ (op11C_server o)
        have q1 := OB6.out.at_ (op11C_now o)
        clear hy hbx0 hn9
        go_wp2_with (first
          | (go_at_call 11; have hx := TK0; clear hx TK0; refine (cfind_any o.2.2.1 HLN.out o.2.1 _ c b M2 S6.out E2 RL.out y bx HY.out HBX.out).mono ?_; rintro r w7 ⟨A7, c7, rfl, hr7, g7⟩; have R7 := Lib.hid hr7; have S7 := Lib.hid (S6.out.none g7); have D7 := Lib.hid (D6.out.none g7); have W7 := Lib.hid (grown_trans' W6.out g7); have OB7 := Lib.hid (OB6.out.kept g7); clear g7 hr7 q0 q1; have TK1 := Lib.hid True.intro)
          | (have hx := TK1; clear hx TK1; refine wpList_allocC zeroC_run rfl rfl ?_; have TK2 := Lib.hid True.intro)
          | (have hx := TK2; clear hx TK2; refine wpList_storeC (off := 0) (p := cdC y.1 A7 c7) aggC.hi rfl (.tmp 9) (.tmp 81) rfl (.agg (cdC y.1 A7 c7).toArray) rfl (cdC_one _ _ _) (CB.new w7 38 (ceC zeroCe)) (HLY.out _ _) (by rw [zeroCe_length]; omega) (by first | rfl | go_simp) (by first | rfl | go_simp) ?_; intro w8 h4 g4; rw [over_all _ _ (Nat.le_of_eq (by rw [zeroCe_length]; exact (HLY.out _ _).symm))] at h4; have G4' := Lib.hid (none_new (grown_alloc w7 (.cells (ceC zeroCe).toArray 38) none) g4 (Nat.le_refl _)); have C8 := Lib.hid h4; have R8 := Lib.hid (R7.out.keptC G4'.out); have S8 := Lib.hid (S7.out.none G4'.out); have D8 := Lib.hid (D7.out.none G4'.out); have W8 := Lib.hid (grown_trans' W7.out G4'.out); have OB8 := Lib.hid (OB7.out.kept G4'.out); clear G4'; have q0 := OB8.out.at_ (op11C_server o); have q1 := OB8.out.at_ (op11C_now o); clear h4 g4; have TK3 := Lib.hid True.intro)
          | (go_at_call 12; have hx := TK3; clear hx TK3; refine (cfindR_any o.2.2.1 o.2.1 _ m m E2 D8.out y bx HY.out HBX.out).mono ?_; rintro r w9 ⟨rfl, g9⟩; have C9 := Lib.hid (C8.out.kept g9); have R9 := Lib.hid (R8.out.keptC g9); have S9 := Lib.hid (S8.out.none g9); have D9 := Lib.hid (D8.out.none g9); have W9 := Lib.hid (grown_trans' W8.out g9); clear g9 q0 q1; have TK4 := Lib.hid True.intro)
          | (have hx := TK4; clear hx TK4; refine wpList_allocC zeroC_run rfl rfl ?_; have TK5 := Lib.hid True.intro)
          | (have hx := TK5; clear hx TK5; refine wpList_storeC (off := 0) (p := cdC y.1 y.2.1 y.2.2) aggC.hi rfl (.tmp 11) (.tmp 90) rfl (.agg (cdC y.1 y.2.1 y.2.2).toArray) rfl (cdC_one _ _ _) (CB.new w9 38 (ceC zeroCe)) (HLY.out _ _) (by rw [zeroCe_length]; omega) (by first | rfl | go_simp) (by first | rfl | go_simp) ?_; intro w10 h4 g4; rw [over_all _ _ (Nat.le_of_eq (by rw [zeroCe_length]; exact (HLY.out _ _).symm))] at h4; have G4' := Lib.hid (none_new (grown_alloc w9 (.cells (ceC zeroCe).toArray 38) none) g4 (Nat.le_refl _)); have Y10 := Lib.hid h4; have C10 := Lib.hid (C9.out.kept G4'.out); have R10 := Lib.hid (R9.out.keptC G4'.out); have S10 := Lib.hid (S9.out.none G4'.out); have D10 := Lib.hid (D9.out.none G4'.out); have W10 := Lib.hid (grown_trans' W9.out G4'.out); clear G4'; clear h4 g4; have TK6 := Lib.hid True.intro)
          | (go_at_call 13; have hx := TK6; clear hx TK6; refine (servers_any _ c b M2 S10.out (by have := HLM2.out; omega)).mono ?_; rintro r w11 ⟨vl, ks, rfl, hk, hv, g11⟩; rw [RL.out.list S10.out.2.2.2.named hk] at hv; obtain ⟨A11, c11, hv11, hns, -⟩ := hv.shape; rw [List.length_map, List.length_map, HN9E.out] at hv11; subst hv11; have RW11 := Lib.hid hns; have C11 := Lib.hid (C10.out.kept g11); have Y11 := Lib.hid (Y10.out.kept g11); have R11 := Lib.hid (R10.out.keptC g11); have S11 := Lib.hid (S10.out.none g11); have D11 := Lib.hid (D10.out.none g11); have W11 := Lib.hid (grown_trans' W10.out g11); have YB11 := Lib.hid (YBT.out _ W11.out); clear g11 hk hv hns; have TK7 := Lib.hid True.intro)
          | (have hx := TK7; clear hx TK7; refine wpList_loadCg (off := 0) (p := cdC y.1 A7 c7) aggC (by first | rfl | go_simp) (.tmp 9) rfl C11.out (take_all (HLY.out _ _)) (by rw [HLY.out _ _]; omega) (by first | rfl | go_simp) ?_; have TK8 := Lib.hid True.intro)
          | (have hx := TK8; clear hx TK8; refine wpList_loadCg (off := 0) (p := cdC y.1 y.2.1 y.2.2) aggC (by first | rfl | go_simp) (.tmp 11) rfl Y11.out (take_all (HLY.out _ _)) (by rw [HLY.out _ _]; omega) (by first | rfl | go_simp) ?_; have TK9 := Lib.hid True.intro)
          | (go_at_call 14; have hx := TK9; clear hx TK9; refine (csame_any y.1 y.1 A7 y.2.1 c7 y.2.2 HYW.out HYW.out _ R11.out YB11.out).mono ?_; rw [sameC_refl]; rintro r w12 ⟨rfl, g12⟩; have S12 := Lib.hid (S11.out.none g12); have D12 := Lib.hid (D11.out.none g12); have W12 := Lib.hid (grown_trans' W11.out g12); have G12 := Lib.hid g12; obtain ⟨A9, cx, hcm, -, -⟩ := D12.out.open_; rw [HN9E.out] at hcm; have q9 := hcm.at_ (i := 0) (v := .slice A9 n9 cx) rfl; clear g12 hcm; have TK10 := Lib.hid True.intro))
        clear q9 hbx
        go_loopw [115] (fun v wr => ∃ j : Nat, j ≤ n9 ∧ v = .int .i64 j ∧ w12.grownBy wr none) (fun v _ => n9 - (intOf v).toNat)
        case atStart => exact ⟨0, Nat.zero_le _, rfl, World.grownBy.refl _ _⟩
        case round =>
          rename World => wi
          obtain ⟨j, hj, rfl, hWi⟩ := hrel
          have WI := Lib.hid hWi
          have hn16 := HN9.out
          clear hWi
          by_cases hjl : j < n9
          · have hjli : (j : Int) < (n9 : Int) := by omega
            have hjE : j < E2.length := by rw [HN9E.out]; exact hjl
            obtain ⟨e, he⟩ : ∃ e, E2[j]? = some e := ⟨_, List.getElem?_eq_getElem hjE⟩
            obtain ⟨gl, ol, hAl, hgl, hcl⟩ := RW11.out.open_ (by rw [List.length_map, List.length_map]; omega)
            subst hAl
            obtain ⟨ab2, ao2, cx2, hcm, hcells, -, -, -⟩ := lc_elem (D12.out.none WI.out) he
            rw [HN9E.out] at hcm
            have q2 : wi.cell? ⟨gl, ol + j, none⟩ = some (.string ⟨e.1.sv.toArray⟩) := by
              have h1 := hcl j (by rw [List.length_map, List.length_map]; exact hjE)
              have h2 : ((E2.map nmC).map fun x => (⟨x.toArray⟩ : ByteArray))[j]'(by rw [List.length_map, List.length_map]; exact hjE) = ⟨e.1.sv.toArray⟩ := by
                rw [List.getElem_map, List.getElem_map]
                obtain ⟨_, hee⟩ := List.getElem?_eq_some_iff.1 he
                rw [hee]
                rfl
              rw [h2] at h1
              exact ((below_of_none (grown_trans' G12.out WI.out)).cell (p := ⟨gl, _, none⟩) hgl).trans h1
            have q3 := hcm.at_ (i := 0) (v := .slice (some ⟨ab2, ao2, none⟩) n9 cx2) rfl
            have q4 := hcells 2 _ (cdC_sv e.1 e.2.1 e.2.2)
            have dq : (e.1.sv == e.1.sv) = true := beq_self_eq_true _
            clear hcl hcells hcm he hgl
            go_wp2
            go_quiet (fail)
            go_wp2
            go_roundw
            case rel => exact ⟨j + 1, by omega, by go_num, grown_trans' WI.out (grown_drewC wi nq none)⟩
            case measure => simp [intOf]; omega
          · have SZ := Lib.hid (S12.out.none WI.out)
            have DZ := Lib.hid (D12.out.none WI.out)
            have WZ := Lib.hid (grown_trans' W12.out WI.out)
            have hnl : ¬ ((j : Int) < (n9 : Int)) := by omega
            go_wp2
            go_roundw
            case rel => exact ⟨k + 1, M2, E2, by omega, by go_num, RL.out, SZ.out, DZ.out, HHIM2.out, HEI.out, WZ.out⟩
            case measure => simp [intOf]; omega
      · have hk4 : (o.1 % 4 == 0) = false := by simpa using h4
        clear h4
        have HLXO := Lib.hid (ceC_length HOO.out)
        obtain ⟨nt, hnt⟩ : ∃ n, o.2.2.2.1.tk.length = n := ⟨_, rfl⟩
        have HNT := Lib.hid hnt
        have HNTL := Lib.hid (show nt ≤ 100000 by rw [← hnt]; exact HOO.out.lt)
        have hqt := op11C_tk o
        rw [hnt] at hqt
        have HQT := Lib.hid hqt
        clear hnt hqt
        go_wp2_with (first
          | (have hx := TK5; clear hx TK5; refine wpList_loadX (p := op11C o) aggO11 rfl (.tmp 28) rfl (b := ab) (off := ao + 26 * k) HCELL.out (op11C_len HOW.out) (by first | rfl | go_simp) ?_; have TK6 := Lib.hid True.intro)
          | (have hx := TK6; clear hx TK6; refine wpList_allocC zeroO11_run rfl rfl ?_; have TK7 := Lib.hid True.intro)
          | (have hx := TK7; clear hx TK7; refine wpList_storeC (off := 0) (p := op11C o) aggO11.hi rfl (.tmp 6) (.tmp 29) rfl (.agg (op11C o).toArray) rfl (op11C_one o) HB1.out (op11C_len HOW.out) (by rw [zeroO11_length]; omega) (by first | rfl | go_simp) (by first | rfl | go_simp) ?_; intro w3 h3 g3; rw [over_all _ _ (Nat.le_of_eq (by rw [zeroO11_length, op11C_len HOW.out]))] at h3; have O3 := Lib.hid h3; have W3' := Lib.hid (none_new (grown_alloc wr (.cells zeroO11.toArray 40) none) g3 (Nat.le_refl _)); have W2 := Lib.hid (grown_trans' HW.out W3'.out); have S2 := Lib.hid (HS.out.none W3'.out); have D2 := Lib.hid (HD.out.none W3'.out); have q0 := h3.at_ (op11C_server o); have qk := h3.at_ (op11C_k o); clear h3 g3; have TK8 := Lib.hid True.intro)
          | (have hx := TK8; clear hx TK8; refine wpList_loadC (off := 3) (p := ceC o.2.2.2) aggC rfl (.tmp 43) rfl O3.out (op11C_p HOW.out) (by rw [op11C_len HOW.out]; omega) (by first | rfl | go_simp) ?_; have TK9 := Lib.hid True.intro)
          | (have hx := TK9; clear hx TK9; refine wpList_allocC zeroC_run rfl rfl ?_; have TK10 := Lib.hid True.intro)
          | (have hx := TK10; clear hx TK10; refine wpList_storeC (off := 0) (p := ceC o.2.2.2) aggC.hi rfl (.tmp 7) (.tmp 44) rfl (.agg (ceC o.2.2.2).toArray) rfl (ceC_one _) (CB.new w3 38 (ceC zeroCe)) HLXO.out (by rw [zeroCe_length]; omega) (by first | rfl | go_simp) (by first | rfl | go_simp) ?_; intro w4 h4 g4; rw [over_all _ _ (Nat.le_of_eq (by rw [zeroCe_length, HLXO.out]))] at h4; have gs := none_new (grown_alloc w3 (.cells (ceC zeroCe).toArray 38) none) g4 (Nat.le_refl _); have X4 := Lib.hid h4; have O4 := Lib.hid (O3.out.kept gs); have Z3 := Lib.hid W3'.out; have Z4 := Lib.hid (grown_trans' W3'.out gs); have W4 := Lib.hid (grown_trans' W2.out gs); have q5 := (O4.out.alloc (.cells #[] 5)).at_ HQT.out; clear h4 g4 gs; have TK11 := Lib.hid True.intro)
          | (at_builtin; have hx := TK11; clear hx TK11; refine wpList_appB byteT rfl (.tmp 45) (.tmp 48) rfl (OwnB.new0 w4 w4.heap.size _ (Nat.le_refl _)) ((HOW.out.r.keptC W4.out).alloc (Nat.le_refl _) _) rfl (by rw [HNT.out]; rfl) (by rw [HNT.out]; have := HNTL.out; simp; omega) (by simp) ?_; intro v5 w5 o5 g5 _ _; rw [List.nil_append] at o5; have gg := none_new (grown_alloc w4 (.cells #[] 5) none) g5 (Nat.le_refl _); obtain ⟨A5, c5, rfl, -, -⟩ := o5.shape; have OW5 := Lib.hid o5; have X5 := Lib.hid (X4.out.kept gg); have O5 := Lib.hid (O4.out.kept gg); have Z5 := Lib.hid (grown_trans' Z4.out gg); clear o5 g5 gg q5; rw [HNT.out]; have q5 := True.intro; have TK12 := Lib.hid True.intro)
          | (have hx := TK12; refine wpList_storeC (off := 1) (p := [.slice A5 nt c5]) (n := 1) szBC rfl (.tmp 50) (.tmp 49) rfl (.slice A5 nt c5) rfl (by intro u hu; rw [List.mem_singleton.1 hu]; rfl) X5.out rfl (by rw [show (ceC o.2.2.2).length = 23 from HLXO.out]; decide) (by first | rfl | go_simp) (by first | rfl | go_simp) ?_; intro w6 h6 g6; rw [← HNT.out] at h6; have X6 := Lib.hid (show CB w6 w3.heap.size 38 (cdC o.2.2.2.1 A5 c5) from (over_tk o.2.2.2.1 o.2.2.2.2.1 A5 o.2.2.2.2.2 c5) ▸ h6); have O6 := Lib.hid (O5.out.grown g6 (cb_neC O5.out X5.out (by decide))); have Z6 := Lib.hid (none_new Z5.out g6 Z3.out.size); have OW6 := Lib.hid (OW5.out.keptO g6 (fun z e => by injection e with e; rw [← e]; exact X4.out.lt)); clear h6 g6 hx))
        clear q0 qk hand hk4 q5 TK12
        obtain ⟨BA, hBA⟩ : ∃ B, w4.heap.size = B := ⟨_, rfl⟩
        have HBA := Lib.hid (show b < BA ∧ m < BA by have h1 := HS.out.lt.2; have h2 := Z4.out.size; omega)
        have HWB := Lib.hid (show wr.heap.size ≤ BA by rw [← hBA]; exact Z4.out.size)
        have OW6' := OW6.out
        rw [hBA] at OW6'
        have OW := Lib.hid OW6'
        obtain ⟨B0, hB0⟩ : ∃ B, w6.heap.size = B := ⟨_, rfl⟩
        have HB0 := Lib.hid (show m < B0 by rw [← hB0]; have := Z6.out.size; omega)
        have HB0W := Lib.hid hB0
        have S6 := Lib.hid (HS.out.none Z6.out)
        have D6 := Lib.hid (HD.out.none Z6.out)
        have W6 := Lib.hid (grown_trans' HW.out Z6.out)
        have HA5B := Lib.hid (show ∀ a, A5 = some a → o.2.2.2.1.tk = [] ∨ a.block ≠ b from fun a ha => by
          rcases OW.out.place with h | ⟨g, cs, hA, hg, -, -⟩
          · exact .inl (List.eq_nil_of_length_eq_zero h)
          · right; rw [hA] at ha; injection ha with ha; subst ha; have := HBA.out.1; simp only; omega)
        have HG5 := Lib.hid (show ∀ g, A5 = some ⟨g, 0, none⟩ → g < B0 from fun g hg => by rw [← hB0]; exact (OwnB.lt OW.out g (by rw [hg]; rfl)).2)
        have HGX := Lib.hid (show w3.heap.size ≠ b ∧ w3.heap.size ≠ m by have h1 := HS.out.lt.2; have h2 := Z3.out.size; constructor <;> omega)
        have HXW := Lib.hid (show w.heap.size ≤ BA from Nat.le_trans HW.out.size HWB.out)
        have HBLW := Lib.hid (show BelowB BA M from fun q hq a ha => (HS.out.2.2.2.belowB q hq a ha).imp id fun h => Nat.lt_of_lt_of_le h HWB.out)
        obtain ⟨go, hgo⟩ : ∃ g, wr.heap.size = g := ⟨_, rfl⟩
        obtain ⟨gx, hgx⟩ : ∃ g, w3.heap.size = g := ⟨_, rfl⟩
        rw [hgo] at O6 HGO
        rw [hgx] at X6 HGX
        rw [hgo, hgx]
        clear hgo hgx hmw hBA hB0 OW6' OW6 Z3 Z4 Z6 O3 W3' W2 S2 D2
        have HLXC := Lib.hid (show (cdC o.2.2.2.1 A5 c5).length = 23 from cdC_length HOO.out.w.lk _ _)
        obtain ⟨kq, hkq⟩ : ∃ q, numP M o.2.2.2.1 o.2.1 = q := ⟨_, rfl⟩
        have HKQ := Lib.hid hkq
        have HBB := Lib.hid (show (kq == kq) = true from beq_self_eq_true _)
        clear hkq
        refine region_byT (n := 12) (ds := [some 51, some 52, some 53, some 54, some 55, some 56, some 57, some 58, some 59, some 60, some 61, some 62]) (CpwTp b m) (CpwGp w B0 BA c b m go gx M E o A5 c5) (CpwFp o A5 c5 c m go kq) (by kernel_rfl) (by kernel_rfl) rfl (by kernel_rfl) (fun i j v x y _ _ _ h => CpwFp.kept j v x y h) ⟨(fun _ => S6.out), (fun h => by cases h), (fun _ => D6.out), (fun h => by cases h), O6.out, X6.out, grown_drew W6.out, Nat.le_of_eq HB0W.out.symm, OW.out⟩ ⟨⟨⟨⟨⟨⟨⟨⟨⟨⟨⟨⟨trivial, ?_⟩, ?_⟩, ?_⟩, ?_⟩, ?_⟩, ?_⟩, ?_⟩, ?_⟩, ?_⟩, ?_⟩, ?_⟩, ?_⟩ ?_
        · refine Inv.dutyT_plain rfl rfl (fun L vs a x l0 hG dep up val ev out K hK => ?_)
          have e3 : a.eval (.tmp 3) = .pointer (some ⟨c, 0, none⟩) := (out 3 (Inv.ne_of_outB (by kernel_rfl))).trans rfl
          refine Inv.wp_value (v := .pointer (some ⟨c, 0, none⟩)) ?_ (hK.out _ _ rfl (CpwGp.more (i := 0) (by omega) (by omega) hG) rfl)
          clear hG hK K dep up val ev out l0
          generalize a.eval = ρ at *
          (simp [execOp, go_sem, *]; done)
        · refine Inv.dutyT_plain rfl rfl (fun L vs a x l0 hG dep up val ev out K hK => ?_)
          have e7 : a.eval (.tmp 7) = .pointer (some ⟨gx, 0, none⟩) := (out 7 (Inv.ne_of_outB (by kernel_rfl))).trans rfl
          exact wp_loadC aggC (.tmp 7) rfl hG.2.2.2.2.2.1 (take_all HLXC.out) (by rw [HLXC.out]; omega) e7 (hK.out _ _ rfl (CpwGp.more (i := 1) (by omega) (by omega) hG) rfl)
        · refine Inv.dutyT_plain rfl rfl (fun L vs a x l0 hG dep up val ev out K hK => ?_)
          have e6 : a.eval (.tmp 6) = .pointer (some ⟨go, 0, none⟩) := (out 6 (Inv.ne_of_outB (by kernel_rfl))).trans rfl
          refine Inv.wp_value (v := .pointer (some ⟨go, 1, none⟩)) ?_ (hK.out _ _ rfl (CpwGp.more (i := 2) (by omega) (by omega) hG) rfl)
          clear hG hK K dep up val ev out l0
          generalize a.eval = ρ at *
          (simp [execOp, go_sem, *]; done)
        · refine Inv.dutyT_plain rfl rfl (fun L vs a x l0 hG dep up val ev out K hK => ?_)
          have L53 := dep 2 (by kernel_rfl)
          have e53 : a.eval (.tmp 53) = .pointer (some ⟨go, 1, none⟩) := (ev 2 53 L53 (by kernel_rfl)).trans (val 2 L53)
          have q0 := hG.2.2.2.2.1.at_ (op11C_now o)
          refine Inv.wp_value (v := .int .i64 o.2.1) ?_ (hK.out _ _ rfl (CpwGp.more (i := 3) (by omega) (by omega) hG) rfl)
          clear hG hK K dep up val ev out l0
          generalize a.eval = ρ at *
          (simp [execOp, go_sem, *]; done)
        · refine Inv.dutyT_plain rfl rfl (fun L vs a x l0 hG dep up val ev out K hK => ?_)
          have ef : ∀ f, a.eval (.func f) = .func (.func f) #[] #[] := fun _ => rfl
          have L51 := dep 0 (by kernel_rfl)
          have e51 : a.eval (.tmp 51) = .pointer (some ⟨c, 0, none⟩) := (ev 0 51 L51 (by kernel_rfl)).trans (val 0 L51)
          have L52 := dep 1 (by kernel_rfl)
          have e52 : a.eval (.tmp 52) = .agg (cdC o.2.2.2.1 A5 c5).toArray := (ev 1 52 L52 (by kernel_rfl)).trans (val 1 L52)
          have L54 := dep 3 (by kernel_rfl)
          have e54 : a.eval (.tmp 54) = .int .i64 o.2.1 := (ev 3 54 L54 (by kernel_rfl)).trans (val 3 L54)
          refine Inv.wp_call (by clear hG hK K dep up val ev out l0; generalize a.eval = ρ at *; (simp [execOp, go_sem, *]; done)) ((cput_two o.2.2.2.1 A5 c5 HOO.out x (HM.out.below (below_of_none hG.2.2.2.2.2.2.1)) hG.2.2.2.2.2.2.2.2.rbO c b HA5B.out M (hG.1 l0) (by have := HLM.out; omega) o.2.1).mono ?_)
          rintro e w' ⟨M', n', rfl, hpc, hks, g3, hnb⟩
          have hn' := hpc.num
          subst hn'
          exact ⟨_, rfl, hK.out _ _ g3 (CpwGp.first HBA.out.1 HGO.out.1 HGX.out.1 HCE.out.1 l0 ⟨M', hpc, (fun q hq => (hnb q hq).imp id fun h a ha => Nat.le_trans hG.2.2.2.2.2.2.2.1 (h a ha)), hks⟩ g3 hG) (by rw [HKQ.out]; rfl)⟩
        · refine Inv.dutyT_plain rfl rfl (fun L vs a x l0 hG dep up val ev out K hK => ?_)
          have e4 : a.eval (.tmp 4) = .pointer (some ⟨m, 0, none⟩) := (out 4 (Inv.ne_of_outB (by kernel_rfl))).trans rfl
          refine Inv.wp_value (v := .pointer (some ⟨m, 0, none⟩)) ?_ (hK.out _ _ rfl (CpwGp.more (i := 5) (by omega) (by omega) hG) rfl)
          clear hG hK K dep up val ev out l0
          generalize a.eval = ρ at *
          (simp [execOp, go_sem, *]; done)
        · refine Inv.dutyT_plain rfl rfl (fun L vs a x l0 hG dep up val ev out K hK => ?_)
          have e6 : a.eval (.tmp 6) = .pointer (some ⟨go, 0, none⟩) := (out 6 (Inv.ne_of_outB (by kernel_rfl))).trans rfl
          refine Inv.wp_value (v := .pointer (some ⟨go, 3, none⟩)) ?_ (hK.out _ _ rfl (CpwGp.more (i := 6) (by omega) (by omega) hG) rfl)
          clear hG hK K dep up val ev out l0
          generalize a.eval = ρ at *
          (simp [execOp, go_sem, *]; done)
        · refine Inv.dutyT_plain rfl rfl (fun L vs a x l0 hG dep up val ev out K hK => ?_)
          have L57 := dep 6 (by kernel_rfl)
          have e57 : a.eval (.tmp 57) = .pointer (some ⟨go, 3, none⟩) := (ev 6 57 L57 (by kernel_rfl)).trans (val 6 L57)
          exact wp_loadC aggC (.tmp 57) rfl hG.2.2.2.2.1 (op11C_p HOW.out) (by rw [op11C_len HOW.out]; omega) e57 (hK.out _ _ rfl (CpwGp.more (i := 7) (by omega) (by omega) hG) rfl)
        · refine Inv.dutyT_plain rfl rfl (fun L vs a x l0 hG dep up val ev out K hK => ?_)
          have e6 : a.eval (.tmp 6) = .pointer (some ⟨go, 0, none⟩) := (out 6 (Inv.ne_of_outB (by kernel_rfl))).trans rfl
          refine Inv.wp_value (v := .pointer (some ⟨go, 1, none⟩)) ?_ (hK.out _ _ rfl (CpwGp.more (i := 8) (by omega) (by omega) hG) rfl)
          clear hG hK K dep up val ev out l0
          generalize a.eval = ρ at *
          (simp [execOp, go_sem, *]; done)
        · refine Inv.dutyT_plain rfl rfl (fun L vs a x l0 hG dep up val ev out K hK => ?_)
          have L59 := dep 8 (by kernel_rfl)
          have e59 : a.eval (.tmp 59) = .pointer (some ⟨go, 1, none⟩) := (ev 8 59 L59 (by kernel_rfl)).trans (val 8 L59)
          have q0 := hG.2.2.2.2.1.at_ (op11C_now o)
          refine Inv.wp_value (v := .int .i64 o.2.1) ?_ (hK.out _ _ rfl (CpwGp.more (i := 9) (by omega) (by omega) hG) rfl)
          clear hG hK K dep up val ev out l0
          generalize a.eval = ρ at *
          (simp [execOp, go_sem, *]; done)
        · refine Inv.dutyT_plain rfl rfl (fun L vs a x l0 hG dep up val ev out K hK => ?_)
          have ef : ∀ f, a.eval (.func f) = .func (.func f) #[] #[] := fun _ => rfl
          have L56 := dep 5 (by kernel_rfl)
          have e56 : a.eval (.tmp 56) = .pointer (some ⟨m, 0, none⟩) := (ev 5 56 L56 (by kernel_rfl)).trans (val 5 L56)
          have L58 := dep 7 (by kernel_rfl)
          have e58 : a.eval (.tmp 58) = .agg (ceC o.2.2.2).toArray := (ev 7 58 L58 (by kernel_rfl)).trans (val 7 L58)
          have L60 := dep 9 (by kernel_rfl)
          have e60 : a.eval (.tmp 60) = .int .i64 o.2.1 := (ev 9 60 L60 (by kernel_rfl)).trans (val 9 L60)
          refine Inv.wp_call (by clear hG hK K dep up val ev out l0; generalize a.eval = ρ at *; (simp [execOp, go_sem, *]; done)) ((crefPut_any x m m E (hG.2.2.1 l0) o.2.2.2 HOO.out o.2.1 HREL.out.1).mono ?_)
          rintro e w' ⟨E2, k2, hp, rfl, h3, g3⟩
          obtain ⟨M', hpc⟩ := putC_ex M o.2.2.2.1 o.2.1
          have hk2 := (HREL.out.put HNM.out hp hpc).2
          exact ⟨_, rfl, hK.out _ _ g3 (CpwGp.second HCE.out.2.1 HCE.out.2.2.1 HCE.out.2.2.2 HGO.out.2 HGX.out.2 HHI.out HB0.out HBA.out.2 ⟨E2, k2, hp, h3⟩ g3 hG) (by rw [← hk2, HKQ.out]; rfl)⟩
        · refine Inv.dutyT_plain rfl rfl (fun L vs a x l0 hG dep up val ev out K hK => ?_)
          have L55 := dep 4 (by kernel_rfl)
          have e55 : a.eval (.tmp 55) = .int .i64 kq := (ev 4 55 L55 (by kernel_rfl)).trans (val 4 L55)
          have L61 := dep 10 (by kernel_rfl)
          have e61 : a.eval (.tmp 61) = .int .i64 kq := (ev 10 61 L61 (by kernel_rfl)).trans (val 10 L61)
          have hbb := HBB.out
          refine Inv.wp_value (v := .bool false) ?_ (hK.out _ _ rfl (CpwGp.more (i := 11) (by omega) (by omega) hG) rfl)
          clear hG hK K dep up val ev out l0
          generalize a.eval = ρ at *
          (simp [execOp, go_sem, *]; done)
        intro vs L w7 hL hG hv
        have hZ : vs 11 = .bool false := hv 11 (by omega)
        simp only [Inv.putAll, Act.put, List.setIfInBounds_toArray, List.set_cons_zero, List.set_cons_succ, Nat.zero_add, Nat.reduceAdd]
        rw [hZ]
        obtain ⟨M2, hpc, hnb, hks⟩ := hG.2.1 (hL 4 (by omega))
        obtain ⟨E2, k2, hpd, hl7⟩ := hG.2.2.2.1 (hL 10 (by omega))
        have RL := Lib.hid (HREL.out.put HNM.out hpd hpc).1
        have S7 := Lib.hid hks
        have D7 := Lib.hid hl7
        have W7 := Lib.hid hG.2.2.2.2.2.2.1
        have OB7 := Lib.hid hG.2.2.2.2.1
        have X7 := Lib.hid hG.2.2.2.2.2.1
        have P7 := Lib.hid hG.2.2.2.2.2.2.2.2.place
        have HHIM2 := Lib.hid (HHI.out.new hnb HB0.out)
        have HEI := Lib.hid (show ∀ y ∈ E2, ∃ o ∈ l, y = o.2.2.2 from fun y hy => by
          rcases PutD.mem hpd hy with rfl | h
          · exact ⟨o, HOM.out, rfl⟩
          · exact HEI0.out y h)
        have HQ5 := Lib.hid (show ∀ q ∈ M2, ∀ a, q.2.2.1 = some a → q.2.1.tk = [] ∨ (a.block < BA ∨ B0 ≤ a.block) from fun q hq a ha => by
          rcases hnb q hq with h | h
          · exact (HBLW.out q h a ha).imp id .inl
          · exact .inr (.inr (h a ha)))
        have q6 := X7.out.at_ (cdC_tk o.2.2.2.1 A5 c5)
        rw [HNT.out] at q6
        clear hv hZ hG hL hpc hnb hks hpd hl7
        go_wp2
        clear q6
        go_loopw [66] (fun v wq => ∃ j : Nat, j ≤ nt ∧ v = .int .i64 j ∧ KS wq c b M2 ∧ LC wq m m E2 ∧ CB wq go 40 (op11C o) ∧ CB wq gx 38 (cdC o.2.2.2.1 A5 c5) ∧ (nt = 0 ∨ ∃ g5 cs5, A5 = some ⟨g5, 0, none⟩ ∧ BA ≤ g5 ∧ CB wq g5 5 cs5 ∧ nt ≤ cs5.length) ∧ w.grownBy wq none) (fun v _ => nt - (intOf v).toNat)
        case atStart => exact ⟨0, Nat.zero_le _, rfl, S7.out, D7.out, OB7.out, X7.out, (by have := P7.out; rw [HNT.out] at this; exact this), W7.out⟩
        case round =>
          rename World => wl
          obtain ⟨j, hj, rfl, hSl, hDl, hOl, hXl, hP, hWl⟩ := hrel
          have SL := Lib.hid hSl
          have DL := Lib.hid hDl
          have OBL := Lib.hid hOl
          have XL := Lib.hid hXl
          have WL := Lib.hid hWl
          have hnt0 := HNTL.out
          clear hSl hDl hOl hXl hWl
          by_cases hjl : j < nt
          · rcases hP with h0 | ⟨g5, cs5, hA, hg5, hc5, hl5⟩
            · omega
            have H5 := Lib.hid hc5
            have HL5 := Lib.hid hl5
            have HB5 := Lib.hid hg5
            have HA5 := Lib.hid (HG5.out g5 hA)
            have q6 := XL.out.at_ (cdC_tk o.2.2.2.1 A5 c5)
            rw [HNT.out, hA] at q6
            have HAE := Lib.hid hA
            have hjli : (j : Int) < (nt : Int) := by omega
            have TS := Lib.hid True.intro
            clear hc5 hl5 hg5 hA
            go_wp2_with (have hx := TS; clear hx TS; refine wpList_setC (off := j) sz1C rfl (.tmp 72) (.const (.int .u8 238)) rfl .u8 238 H5.out (Nat.lt_of_lt_of_le hjl HL5.out) (by first | rfl | go_simp) (by first | rfl | go_simp) ?_; intro wn hn gn; have HN5 := Lib.hid hn; have GN5 := Lib.hid gn; clear hn gn)
            go_roundw
            case rel =>
              have hc1 := HBA.out.1
              have hc2 := HBA.out.2
              have hc3 := HB5.out
              have hc4 := HCE.out.2.1
              refine ⟨j + 1, by omega, by go_num, SL.out.farE GN5.out (by omega) (by omega) (fun q hq a ha => (HQ5.out q hq a ha).imp id fun h => by have := HA5.out; omega), DL.out.cells H5.out (by decide) (by decide) GN5.out, OBL.out.grown GN5.out (cb_neC OBL.out H5.out (by decide)), XL.out.grown GN5.out (cb_neC XL.out H5.out (by decide)), .inr ⟨g5, _, HAE.out, HB5.out, HN5.out, by rw [List.length_set]; exact HL5.out⟩, none_new WL.out GN5.out (Nat.le_trans HXW.out HB5.out)⟩
            case measure => simp [intOf]; omega
          · have hjn : ¬ ((j : Int) < (nt : Int)) := by omega
            clear hP
            obtain ⟨y, hy⟩ : ∃ y, (findD E2 o.2.2.1 o.2.1).getD zeroCe = y := ⟨_, rfl⟩
            obtain ⟨bx, hbx0⟩ : ∃ b, (findD E2 o.2.2.1 o.2.1).isSome = b := ⟨_, rfl⟩
            have HY := Lib.hid hy
            have HBX := Lib.hid hbx0
            have HYW := Lib.hid (show cdW y.1 by rcases findD_in hy with rfl | h; exact zeroCd_w; exact (DL.out.2.2.1 y h).w)
            have HLY := Lib.hid (show ∀ A c, (cdC y.1 A c).length = 23 from fun A c => cdC_length HYW.out.lk A c)
            have YBT := Lib.hid (show ∀ W, w.grownBy W none → RB W W.heap.size y.2.1 y.1.tk y.2.2 from fun W hW => by
              rcases findD_in hy with rfl | h
              · exact RB.nil_ _ _
              · obtain ⟨o', ho', rfl⟩ := HEI.out y h
                exact (HL.out o' ho').r.keptC hW)
            have hbx : (bx == bx) = true := beq_self_eq_true _
            obtain ⟨n9, hn9⟩ : ∃ n, E2.length = n := ⟨_, rfl⟩
            have HN9E := Lib.hid hn9
            have HN9 := Lib.hid (show n9 ≤ 8 by rw [← hn9]; exact DL.out.2.2.2)
            have HLM2 := Lib.hid (show M2.length ≤ 8 by rw [RL.out.len, hn9]; exact HN9.out)
            have TK0 := Lib.hid True.intro
            have q0 := OBL.out.at_ (op11C_server o)
            have q1 := OBL.out.at_ (op11C_now o)
            clear hy hbx0 hn9
            go_wp2_with (first
              | (go_at_call 11; have hx := TK0; clear hx TK0; refine (cfind_any o.2.2.1 HLN.out o.2.1 _ c b M2 SL.out E2 RL.out y bx HY.out HBX.out).mono ?_; rintro r w7 ⟨A7, c7, rfl, hr7, g7⟩; have R7 := Lib.hid hr7; have S7 := Lib.hid (SL.out.none g7); have D7 := Lib.hid (DL.out.none g7); have W7 := Lib.hid (grown_trans' WL.out g7); have OB7 := Lib.hid (OBL.out.kept g7); clear g7 hr7 q0 q1; have TK1 := Lib.hid True.intro)
              | (have hx := TK1; clear hx TK1; refine wpList_allocC zeroC_run rfl rfl ?_; have TK2 := Lib.hid True.intro)
              | (have hx := TK2; clear hx TK2; refine wpList_storeC (off := 0) (p := cdC y.1 A7 c7) aggC.hi rfl (.tmp 9) (.tmp 81) rfl (.agg (cdC y.1 A7 c7).toArray) rfl (cdC_one _ _ _) (CB.new w7 38 (ceC zeroCe)) (HLY.out _ _) (by rw [zeroCe_length]; omega) (by first | rfl | go_simp) (by first | rfl | go_simp) ?_; intro w8 h4 g4; rw [over_all _ _ (Nat.le_of_eq (by rw [zeroCe_length]; exact (HLY.out _ _).symm))] at h4; have G4' := Lib.hid (none_new (grown_alloc w7 (.cells (ceC zeroCe).toArray 38) none) g4 (Nat.le_refl _)); have C8 := Lib.hid h4; have R8 := Lib.hid (R7.out.keptC G4'.out); have S8 := Lib.hid (S7.out.none G4'.out); have D8 := Lib.hid (D7.out.none G4'.out); have W8 := Lib.hid (grown_trans' W7.out G4'.out); have OB8 := Lib.hid (OB7.out.kept G4'.out); clear G4'; have q0 := OB8.out.at_ (op11C_server o); have q1 := OB8.out.at_ (op11C_now o); clear h4 g4; have TK3 := Lib.hid True.intro)
              | (go_at_call 12; have hx := TK3; clear hx TK3; refine (cfindR_any o.2.2.1 o.2.1 _ m m E2 D8.out y bx HY.out HBX.out).mono ?_; rintro r w9 ⟨rfl, g9⟩; have C9 := Lib.hid (C8.out.kept g9); have R9 := Lib.hid (R8.out.keptC g9); have S9 := Lib.hid (S8.out.none g9); have D9 := Lib.hid (D8.out.none g9); have W9 := Lib.hid (grown_trans' W8.out g9); clear g9 q0 q1; have TK4 := Lib.hid True.intro)
              | (have hx := TK4; clear hx TK4; refine wpList_allocC zeroC_run rfl rfl ?_; have TK5 := Lib.hid True.intro)
              | (have hx := TK5; clear hx TK5; refine wpList_storeC (off := 0) (p := cdC y.1 y.2.1 y.2.2) aggC.hi rfl (.tmp 11) (.tmp 90) rfl (.agg (cdC y.1 y.2.1 y.2.2).toArray) rfl (cdC_one _ _ _) (CB.new w9 38 (ceC zeroCe)) (HLY.out _ _) (by rw [zeroCe_length]; omega) (by first | rfl | go_simp) (by first | rfl | go_simp) ?_; intro w10 h4 g4; rw [over_all _ _ (Nat.le_of_eq (by rw [zeroCe_length]; exact (HLY.out _ _).symm))] at h4; have G4' := Lib.hid (none_new (grown_alloc w9 (.cells (ceC zeroCe).toArray 38) none) g4 (Nat.le_refl _)); have Y10 := Lib.hid h4; have C10 := Lib.hid (C9.out.kept G4'.out); have R10 := Lib.hid (R9.out.keptC G4'.out); have S10 := Lib.hid (S9.out.none G4'.out); have D10 := Lib.hid (D9.out.none G4'.out); have W10 := Lib.hid (grown_trans' W9.out G4'.out); clear G4'; clear h4 g4; have TK6 := Lib.hid True.intro)
              | (go_at_call 13; have hx := TK6; clear hx TK6; refine (servers_any _ c b M2 S10.out (by have := HLM2.out; omega)).mono ?_; rintro r w11 ⟨vl, ks, rfl, hk, hv, g11⟩; rw [RL.out.list S10.out.2.2.2.named hk] at hv; obtain ⟨A11, c11, hv11, hns, -⟩ := hv.shape; rw [List.length_map, List.length_map, HN9E.out] at hv11; subst hv11; have RW11 := Lib.hid hns; have C11 := Lib.hid (C10.out.kept g11); have Y11 := Lib.hid (Y10.out.kept g11); have R11 := Lib.hid (R10.out.keptC g11); have S11 := Lib.hid (S10.out.none g11); have D11 := Lib.hid (D10.out.none g11); have W11 := Lib.hid (grown_trans' W10.out g11); have YB11 := Lib.hid (YBT.out _ W11.out); clear g11 hk hv hns; have TK7 := Lib.hid True.intro)
              | (have hx := TK7; clear hx TK7; refine wpList_loadCg (off := 0) (p := cdC y.1 A7 c7) aggC (by first | rfl | go_simp) (.tmp 9) rfl C11.out (take_all (HLY.out _ _)) (by rw [HLY.out _ _]; omega) (by first | rfl | go_simp) ?_; have TK8 := Lib.hid True.intro)
              | (have hx := TK8; clear hx TK8; refine wpList_loadCg (off := 0) (p := cdC y.1 y.2.1 y.2.2) aggC (by first | rfl | go_simp) (.tmp 11) rfl Y11.out (take_all (HLY.out _ _)) (by rw [HLY.out _ _]; omega) (by first | rfl | go_simp) ?_; have TK9 := Lib.hid True.intro)
              | (go_at_call 14; have hx := TK9; clear hx TK9; refine (csame_any y.1 y.1 A7 y.2.1 c7 y.2.2 HYW.out HYW.out _ R11.out YB11.out).mono ?_; rw [sameC_refl]; rintro r w12 ⟨rfl, g12⟩; have S12 := Lib.hid (S11.out.none g12); have D12 := Lib.hid (D11.out.none g12); have W12 := Lib.hid (grown_trans' W11.out g12); have G12 := Lib.hid g12; obtain ⟨A9, cx, hcm, -, -⟩ := D12.out.open_; rw [HN9E.out] at hcm; have q9 := hcm.at_ (i := 0) (v := .slice A9 n9 cx) rfl; clear g12 hcm; have TK10 := Lib.hid True.intro))
            clear q9 hbx
            go_loopw [115] (fun v wr => ∃ j : Nat, j ≤ n9 ∧ v = .int .i64 j ∧ w12.grownBy wr none) (fun v _ => n9 - (intOf v).toNat)
            case atStart => exact ⟨0, Nat.zero_le _, rfl, World.grownBy.refl _ _⟩
            case round =>
              rename World => wi
              obtain ⟨j, hj, rfl, hWi⟩ := hrel
              have WI := Lib.hid hWi
              have hn16 := HN9.out
              clear hWi
              by_cases hjl : j < n9
              · have hjli : (j : Int) < (n9 : Int) := by omega
                have hjE : j < E2.length := by rw [HN9E.out]; exact hjl
                obtain ⟨e, he⟩ : ∃ e, E2[j]? = some e := ⟨_, List.getElem?_eq_getElem hjE⟩
                obtain ⟨gl, ol, hAl, hgl, hcl⟩ := RW11.out.open_ (by rw [List.length_map, List.length_map]; omega)
                subst hAl
                obtain ⟨ab2, ao2, cx2, hcm, hcells, -, -, -⟩ := lc_elem (D12.out.none WI.out) he
                rw [HN9E.out] at hcm
                have q2 : wi.cell? ⟨gl, ol + j, none⟩ = some (.string ⟨e.1.sv.toArray⟩) := by
                  have h1 := hcl j (by rw [List.length_map, List.length_map]; exact hjE)
                  have h2 : ((E2.map nmC).map fun x => (⟨x.toArray⟩ : ByteArray))[j]'(by rw [List.length_map, List.length_map]; exact hjE) = ⟨e.1.sv.toArray⟩ := by
                    rw [List.getElem_map, List.getElem_map]
                    obtain ⟨_, hee⟩ := List.getElem?_eq_some_iff.1 he
                    rw [hee]
                    rfl
                  rw [h2] at h1
                  exact ((below_of_none (grown_trans' G12.out WI.out)).cell (p := ⟨gl, _, none⟩) hgl).trans h1
                have q3 := hcm.at_ (i := 0) (v := .slice (some ⟨ab2, ao2, none⟩) n9 cx2) rfl
                have q4 := hcells 2 _ (cdC_sv e.1 e.2.1 e.2.2)
                have dq : (e.1.sv == e.1.sv) = true := beq_self_eq_true _
                clear hcl hcells hcm he hgl
                go_wp2
                go_quiet (fail)
                go_wp2
                go_roundw
                case rel => exact ⟨j + 1, by omega, by go_num, grown_trans' WI.out (grown_drewC wi nq none)⟩
                case measure => simp [intOf]; omega
              · have SZ := Lib.hid (S12.out.none WI.out)
                have DZ := Lib.hid (D12.out.none WI.out)
                have WZ := Lib.hid (grown_trans' W12.out WI.out)
                have hnl : ¬ ((j : Int) < (n9 : Int)) := by omega
                go_wp2
                go_roundw
                case rel => exact ⟨k + 1, M2, E2, by omega, by go_num, RL.out, SZ.out, DZ.out, HHIM2.out, HEI.out, WZ.out⟩
                case measure => simp [intOf]; omega
    · go_wp2
      go_ret
      exact ⟨rfl, HW.out⟩
theorem walk_CachePlays (w : World) (hM : ML w) (A : Option Addr) (l : List Op11) (cap : Nat) (hA : SR w w.heap.size A 26 (l.map op11C) cap) (hl : ∀ o ∈ l, op11W w o) :
    Calls Tryd.prog 3 #[.slice A l.length cap] w fun x w' => x = .returned (.bool true) ∧ Below w.heap.size w w' := by
  have go : Calls Tryd.prog 3 #[.slice A l.length cap] w fun x w' => x = .returned (.bool true) ∧ w.grownBy w' none := by
    cases hg : greatO11 l with
    | true => exact cplays_great w hM A l _ cap rfl hA hl hg
    | false => exact cplays_in w hM A l _ cap rfl hA hl hg
  exact go.mono fun x w' h => ⟨h.1, below_of_none h.2⟩
end Go.Proofs.YtfpcabfpnekejaaDoor
