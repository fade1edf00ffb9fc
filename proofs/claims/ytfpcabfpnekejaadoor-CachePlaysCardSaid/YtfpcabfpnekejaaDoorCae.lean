/- The walk of cache's Servers. -/
import Derived.Test.YtfpcabfpnekejaaDoorCac
import Derived.Test.YtfpcabfpnekejaaDoorBsi
namespace Go.Proofs.YtfpcabfpnekejaaDoor
open Go.RowKit Go.Maps Go.WideMaps

theorem OwnS.base_C {w : World} {base base' : Nat} {e : TypeId} {v : Value} {ls : List ByteArray} (h : OwnS w base e v ls) (hb : base' ≤ base) : OwnS w base' e v ls :=
  ⟨h.1, h.2.imp id fun ⟨g, cap, cur, h1, h2, h3⟩ => ⟨g, cap, cur, h1, Nat.le_trans hb h2, h3⟩⟩

set_option maxRecDepth 10000 in
set_option maxHeartbeats 2000000 in
theorem servers_any (w : World) (c b : Nat) (M : Cm) (h : KS w c b M) (hlen : M.length ≤ 1000000) :
    Calls Tryd.prog 13 #[.pointer (some ⟨c, 0, none⟩)] w fun e w' => ∃ v ks, e = .returned v ∧ ListedM M ks ∧ OwnS w' w.heap.size 9 v (ks.map fun x => ⟨x.toArray⟩) ∧ w.grownBy w' none := by
  have q0 : w.cell? ⟨c, 0, none⟩ = some (.map (some b)) := h.1.at_ rfl
  have HS := Lib.hid h
  have HLN := Lib.hid hlen
  have HM := Lib.hid h.2.1.2
  have HFM := Lib.hid h.2.1.1
  have HG := Lib.hid (grown_alloc w (.cells #[.map (some b)] 50) none)
  have HD := Lib.hid (show Maps.size (datM Tryd.prog 9 strV ceV M) ≤ maxLen ∧ Maps.size (datM Tryd.prog 9 strV ceV M) * 16 ≤ 140737488355328 by rw [size_datM]; unfold maxLen; omega)
  clear h hlen
  go_enter Tryd.func13, Tryd.ntmps13
  go_wp2_with (first
    | (go_at_call 24; refine (callsIn_wide.1 (sh_maps_Keys_24 (some b) _)).mono ?_; rintro e w1 ⟨rfl, rfl⟩)
    | (go_at_call 23; refine (callsIn_wide.1 (sh_slices_Sorted_keys_23_24 b _ _ RV w HM.out HD.out.1 HD.out.2)).mono ?_; rintro e w1 ⟨v, ss, rfl, hss, hrow, -, hb⟩; have G1 := Lib.hid (grown_trans' HG.out (none_of_below hb (Nat.le_refl _)))
       obtain ⟨ks, hks, hl⟩ : ∃ ks : List (List UInt8), ks = ss.mergeSort (fun x y => decide (x ≤ y)) ∧ ss.length = ks.length := ⟨_, rfl, (List.Perm.length_eq (List.mergeSort_perm _ _)).symm⟩
       have HKS := Lib.hid (show ListedM M ks from ⟨by rw [hks]; exact (List.mergeSort_perm _ _).trans (hss.trans (strKeys_datM Tryd.underlying9 HFM.out)), by rw [hks]; exact sorted_merge ss⟩)
       rw [← hks] at hrow
       obtain ⟨A, cap, hv, hsr, -⟩ := (keys_row hl hrow).shape
       obtain ⟨n, hn⟩ : ∃ n, n = ks.length := ⟨_, rfl⟩
       rw [List.length_map, ← hn] at hv
       subst hv
       have HSR := Lib.hid hsr; have HN := Lib.hid hn
       have HNM := Lib.hid (show n ≤ 1000000 by rw [hn, HKS.out.1.length_eq]; unfold keysM; rw [List.length_map]; exact HLN.out)
       clear hss hrow hb hks hl hsr hn))
  have S1 := Lib.hid (HS.out.none G1.out)
  have HR1 := Lib.hid (OwnS.nil_ w1 w1.heap.size 9)
  clear q0
  go_loopw [3, 13] (fun vl i wr => ∃ k : Nat, k ≤ n ∧ i = .int .i64 k ∧ OwnS wr w1.heap.size 9 vl ((ks.take k).map fun x => ⟨x.toArray⟩) ∧ w1.grownBy wr none) (fun _ i _ => n - (intOf i).toNat)
  case atStart => exact ⟨0, Nat.zero_le _, rfl, by simpa using HR1.out, World.grownBy.refl w1 none⟩
  case round =>
    obtain ⟨k, hk, rfl, hRL, hW⟩ := hrel
    have HRL := Lib.hid hRL
    have HW := Lib.hid hW
    have hn0 := HNM.out
    by_cases hlt : k < n
    · obtain ⟨x, hx⟩ : ∃ x, x = ks[k]'(by rw [← HN.out]; exact hlt) := ⟨_, rfl⟩
      have hxm : x ∈ keysM M := HKS.out.1.mem_iff.1 (by rw [hx]; exact List.getElem_mem _)
      obtain ⟨p, hp⟩ := mem_keysM.1 hxm
      have HSZS := Lib.hid (show (⟨x.toArray⟩ : ByteArray).size ≤ 1000000 by
        have h1 := (S1.out.2.2.2 _ hp).1
        have h2 : p.1.sv.length ≤ 1000 := (S1.out.2.2.2 _ hp).2.1.ls
        show x.toArray.size ≤ _
        rw [List.size_toArray]
        have h3 : x = p.1.sv := h1
        rw [h3]
        omega)
      have HTK := Lib.hid (show ((ks.take (k + 1)).map fun x => (⟨x.toArray⟩ : ByteArray)) = ((ks.take k).map fun x => (⟨x.toArray⟩ : ByteArray)) ++ [⟨x.toArray⟩] by rw [List.take_succ_eq_append_getElem (by rw [← HN.out]; exact hlt), List.map_append, hx]; rfl)
      obtain ⟨ab, ao, hAe, hab, hcells⟩ := HSR.out.elem (k := k) (by rw [List.length_map, ← HN.out]; exact hlt)
      have hce : (ks.map fun x => [strV x])[k]'(by rw [List.length_map, ← HN.out]; exact hlt) = [strV x] := by rw [List.getElem_map, hx]
      rw [hce] at hcells
      have hc0 := ((below_of_none HW.out).cell (p := ⟨ab, ao + 1 * k + 0, none⟩) hab).trans (hcells 0 _ rfl)
      rw [Nat.one_mul, Nat.add_zero] at hc0
      have q1 : wr.cell? ⟨ab, ao + k, none⟩ = some (.string ⟨x.toArray⟩) := hc0
      have HLR := Lib.hid (show ((ks.take k).map fun x => (⟨x.toArray⟩ : ByteArray)).length ≤ 1000000 by rw [List.length_map, List.length_take]; omega)
      have HSZ := Lib.hid HW.out.size
      subst hAe
      clear hce hcells hc0 hx hxm hab hRL hW hp
      go_wp2_with (first
        | (go_at_call 25; refine (sclone_any _ _ HSZS.out).mono ?_; rintro r w3 ⟨rfl, hb3⟩; have G3' := Lib.hid (none_of_below hb3 (Nat.le_refl _)); have W3 := Lib.hid (grown_trans' HW.out G3'.out); have SZ3 := Lib.hid (Nat.le_trans HSZ.out G3'.out.size)
           have W4 := Lib.hid (grown_trans' W3.out (grown_alloc w3 (.cells #[.string ⟨x.toArray⟩] 9) none)); have RL4 := Lib.hid (HRL.out.kept_ (grown_trans' G3'.out (grown_alloc w3 (.cells #[.string ⟨x.toArray⟩] 9) none))); have C4 := Lib.hid (CB.new w3 9 [.string ⟨x.toArray⟩]); have TK4 := Lib.hid True.intro; clear hb3)
        | (have hx := TK4; refine wpList_appStr strT rfl (.tmp 17) (.tmp 20) rfl (ad := ⟨w3.heap.size, 0, none⟩) (c := 1) RL4.out (C4.out.at_ (i := 0) rfl) rfl rfl HLR.out (Nat.le_trans SZ3.out (by rw [World.size_alloc]; omega)) ?_; clear hx TK4
           intro v' w5 h5 g5 a5; have RL5 := Lib.hid h5; have W5 := Lib.hid (none_rowB W4.out g5 (fun g hg => (RL4.out.shape_lt g hg).1)); clear h5 g5 a5))
      go_roundw
      case rel => exact ⟨k + 1, by omega, by go_num, by rw [HTK.out]; exact RL5.out, W5.out⟩
      case measure => simp [intOf]; omega
    · have hkn : k = n := by omega
      have HRF := HRL.out
      rw [hkn, HN.out, List.take_length] at HRF
      have HR2 := Lib.hid HRF
      clear HRF hRL hW
      go_wp2
      go_ret
      exact ⟨_, ks, rfl, HKS.out, OwnS.base_C HR2.out G1.out.size, grown_trans' G1.out HW.out⟩
end Go.Proofs.YtfpcabfpnekejaaDoor
namespace Go.Proofs.YtfpcabfpnekejaaDoor
open Go.RowKit Go.Maps Go.WideMaps

/-- Tickets for a@R. -/
def cdM (j : Nat) (st en : Int) : Cd := ⟨nmB 0, [], nmB j, zeros 16, 0, st, en, 0⟩
theorem cdM_right {j : Nat} (hj : j < 26) {st en : Int} (h0 : 0 ≤ st) (h1 : st ≤ en) (h2 : en ≤ 1099511627776) : rightC (cdM j st en) = true := by
  unfold rightC gOk spanOk timeOk flagsOk
  rw [show parses (cdM j st en).cl = true from nmB_parses 0 (by omega), show parses (cdM j st en).sv = true from nmB_parses j hj]
  show (true && (true && (((decide (0 ≤ st) && decide (st ≤ 1099511627776)) && ((decide (0 ≤ en) && decide (en ≤ 1099511627776)) && decide (st ≤ en))) && (decide ((0 : Int) ≤ 0) && decide ((0 : Int) ≤ 3))))) = true
  rw [decide_eq_true h0, decide_eq_true h1, decide_eq_true h2, decide_eq_true (show st ≤ 1099511627776 by omega), decide_eq_true (show 0 ≤ en by omega)]
  rfl
theorem cdM_ok {j : Nat} {st en : Int} (h0 : I64c st) (h1 : I64c en) : cdOk (cdM j st en) :=
  ⟨by show 3 ≤ 1000; omega, by show 0 ≤ 100000; omega, by show 3 ≤ 1000; omega, ⟨zeros_length 16, by show 0 < 18446744073709551616; omega, h0, h1, by show I64c 0; unfold I64c; omega⟩⟩
def cellsM (j : Nat) (st en : Int) : Array Value := #[.string ⟨#[97, 64, 82]⟩, .slice none 0 0, .string ⟨(nmB j).toArray⟩, .int .u8 0, .int .u8 0, .int .u8 0, .int .u8 0, .int .u8 0, .int .u8 0, .int .u8 0, .int .u8 0, .int .u8 0, .int .u8 0, .int .u8 0, .int .u8 0, .int .u8 0, .int .u8 0, .int .u8 0, .int .u8 0, .int .u64 0, .int .i64 st, .int .i64 en, .int .i64 0]
theorem cellsM_eq (j : Nat) (st en : Int) : cellsM j st en = (cdC (cdM j st en) none 0).toArray := rfl
theorem cput_at (x : Cd) (A : Option Addr) (c0 : Nat) (h : cdOk x) (w w0 : World) (hM : ML w0) (hw : w0.grownBy w none) (hT : RB w w.heap.size A x.tk c0) (c b : Nat) (hTb : ∀ a, A = some a → x.tk = [] ∨ a.block ≠ b) (M : Cm) (hS : KS w c b M) (hlen : M.length ≤ 1000000) (now : Int) (C : Array Value) (hC : C = (cdC x A c0).toArray) :
    Calls Tryd.prog 9 #[.pointer (some ⟨c, 0, none⟩), .agg C, .int .i64 now] w (PutRC w c b M x now) := by
  subst hC
  exact cput_any x A c0 h w (hM.below (below_of_none hw)) hT c b hTb M hS hlen now
theorem PutC.room {M M' : Cm} {x : Cd} {now n : Int} (h : PutC M x now M' n) (hr : rightC x = true) (ho : ¬ x.en < now) (hin : x.sv ∉ keysM (liveM M now)) (h8 : (liveM M now).length < 8) : ∃ A' c', M' = liveM M now ++ [(x.sv, (x, A', c'))] ∧ n = 0 := by
  unfold PutC at h
  rw [if_neg (by rw [hr]; simp), if_neg ho, if_neg (fun h2 => by have := h2.2; omega)] at h
  obtain ⟨A', c', h1, h2⟩ := h
  refine ⟨A', c', ?_, h2⟩
  rw [h1]
  congr 1
  unfold withoutM
  refine List.filter_eq_self.2 fun q hq => decide_eq_true fun e => hin ?_
  rw [← e]
  exact List.mem_map.2 ⟨q, hq, rfl⟩
theorem PutC.full {M M' : Cm} {x : Cd} {now n : Int} (h : PutC M x now M' n) (hr : rightC x = true) (ho : ¬ x.en < now) (hin : x.sv ∉ keysM (liveM M now)) (h8 : 8 ≤ (liveM M now).length) : M' = liveM M now ∧ n = 2 := by
  unfold PutC at h
  rw [if_neg (by rw [hr]; simp), if_neg ho, if_pos ⟨hin, h8⟩] at h
  exact h

set_option maxRecDepth 10000 in
set_option maxHeartbeats 1000000 in
theorem cspeaks_any (w : World) (hM : ML w) : Calls Tryd.prog 4 #[] w fun e w' => e = .returned (.bool true) ∧ w.grownBy w' none := by
  have HO := Lib.hid (cdM_ok (j := 18) (st := 0) (en := 10) (by unfold I64c; omega) (by unfold I64c; omega))
  have HR := Lib.hid (cdM_right (j := 18) (st := 0) (en := 10) (by omega) (by omega) (by omega) (by omega))
  have HL2 := Lib.hid (fun A' c' => (cdC_length (x := cdM 18 0 10) (zeros_length 16) A' c' : (cdC (cdM 18 0 10) A' c').length = 23))
  have HLZ := Lib.hid zeroCe_length
  have HM := Lib.hid hM
  have TKa := Lib.hid True.intro
  clear hM
  go_enter Tryd.func4, Tryd.ntmps4
  go_wp2_with (first
    | (go_at_call 6; refine (cnew_any _).mono ?_; rintro x w1 ⟨rfl, h1, g1⟩; have H1 := Lib.hid h1; have G1 := Lib.hid g1; clear h1 g1)
    | (go_at_call 9; refine (cput_at (cdM 18 0 10) none 0 HO.out _ w HM.out G1.out (RB.nil_ _ _) _ w.heap.size (fun _ h => by cases h) [] H1.out (by simp) 0 _ (cellsM_eq 18 0 10)).mono ?_; rintro x w2 ⟨M', n, rfl, hp, h2, g2⟩
       obtain ⟨A', c', rfl, rfl⟩ := hp.room HR.out (by decide) (by simp [liveM, keysM]) (by simp [liveM])
       have H2 := Lib.hid (show KS w2 (w.heap.size + 1) w.heap.size [(nmB 18, ((cdM 18 0 10, A', c') : Ce))] from h2); have G2 := Lib.hid (none_new G1.out g2 (Nat.le_refl _)); clear h2 g2 hp)
    | (have hx := TKa; go_at_call 11; refine (cfind_in (nmB 18) (by show 3 ≤ 1000; omega) 10 _ _ _ _ H2.out (cdM 18 0 10, A', c') (List.mem_singleton.2 rfl) (show decide ((10 : Int) < 10) = false by decide)).mono ?_; rintro x w3 ⟨A3, c3, rfl, -, -, g3⟩; have H3 := Lib.hid (H2.out.none g3); have G3 := Lib.hid (grown_trans' G2.out g3); clear g3 hx TKa; have TK1 := Lib.hid True.intro)
    | (have hx := TK1; refine wpList_allocC zeroC_run rfl rfl ?_; clear hx TK1; have TK2 := Lib.hid True.intro)
    | (have hx := TK2; refine wpList_storeC (off := 0) (p := cdC (cdM 18 0 10) A3 c3) aggC.hi rfl (.tmp 3) (.tmp 17) rfl (.agg (cdC (cdM 18 0 10) A3 c3).toArray) rfl (cdC_one _ _ _) (CB.new w3 38 (ceC zeroCe)) (HL2.out _ _) (by rw [HLZ.out]; omega) (by first | rfl | go_simp) (by first | rfl | go_simp) ?_; clear hx TK2; intro w4 h4 g4; have G4' := Lib.hid (none_new (grown_alloc w3 (.cells (ceC zeroCe).toArray 38) none) g4 (Nat.le_refl _)); have H4 := Lib.hid (H3.out.none G4'.out); have G4 := Lib.hid (grown_trans' G3.out G4'.out); have TK3 := Lib.hid True.intro; clear h4 g4)
    | (have hx := TK3; go_at_call 11; refine (cfind_out (nmB 18) (by show 3 ≤ 1000; omega) 11 _ _ _ _ H4.out (fun p hp => by
         have hp2 : (nmB 18, p) ∈ [(nmB 18, ((cdM 18 0 10, A', c') : Ce))] := hp
         rw [List.mem_singleton] at hp2
         injection hp2 with _ hp2
         rw [hp2]; exact (show decide ((10 : Int) < 11) = true by decide))).mono ?_; rintro x w5 ⟨rfl, g5⟩; have H5 := Lib.hid (H4.out.none g5); have G5 := Lib.hid (grown_trans' G4.out g5); clear g5 hx TK3; have TK4 := Lib.hid True.intro)
    | (have hx := TK4; refine wpList_allocC zeroC_run rfl rfl ?_; clear hx TK4; have TK5 := Lib.hid True.intro)
    | (have hx := TK5; refine wpList_storeC (off := 0) (p := ceC zeroCe) aggC.hi rfl (.tmp 5) (.tmp 22) rfl (ceV zeroCe) rfl (cdC_one _ _ _) (CB.new w5 38 (ceC zeroCe)) HLZ.out (by rw [HLZ.out]; omega) (by first | rfl | go_simp) (by first | rfl | go_simp) ?_; clear hx TK5; intro w6 h6 g6; have G6' := Lib.hid (none_new (grown_alloc w5 (.cells (ceC zeroCe).toArray 38) none) g6 (Nat.le_refl _)); have H6 := Lib.hid (H5.out.none G6'.out); have G6 := Lib.hid (grown_trans' G5.out G6'.out); clear h6 g6)
    | (go_at_call 13; refine (servers_any _ _ _ _ H6.out (by simp)).mono ?_; rintro x w7 ⟨v, ks, rfl, hk, hv, g7⟩; obtain ⟨A5, c5, hv5, -⟩ := hv.shape; have hkl : ks.length = 1 := by (rw [hk.1.length_eq]; rfl)
       rw [List.length_map, hkl] at hv5; subst hv5; have G7 := Lib.hid (grown_trans' G6.out g7); clear g7 hv hk hkl))
  go_ret
  exact ⟨rfl, G7.out⟩
end Go.Proofs.YtfpcabfpnekejaaDoor
