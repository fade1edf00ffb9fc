/- The walk of the document's Put (cache): what is full; a ticket that is known. -/
import Derived.Test.YtfpcabfpnekejaaDoorCpd
namespace Go.Proofs.YtfpcabfpnekejaaDoor
open Go.RowKit Go.Maps

set_option maxRecDepth 10000 in
set_option maxHeartbeats 2000000 in
theorem crefPut_full (w : World) (B m : Nat) (E : List Ce) (h : LC w B m E) (x : Ce) (hx : cdOk x.1) (now : Int) (hp : parses x.1.cl = true) (hg : gOk x.1.sv x.1.st x.1.en x.1.fl = true) (ho : ¬ x.1.en < now) (ha : atS nmC (liveE E now) x.1.sv = none) (h8 : 8 ≤ (liveE E now).length) :
    Calls Tryd.prog 10 #[.pointer (some ⟨m, 0, none⟩), .agg (ceC x).toArray, .int .i64 now] w fun e w' => PutLC w B m E x now e w' := by
  have B0 := Lib.hid (CB.new w 38 (ceC x))
  have G0 := Lib.hid (grown_alloc w (.cells (ceC x).toArray 38) none)
  have q1 := B0.out.at_ (cdC_cl x.1 x.2.1 x.2.2)
  have HLX := Lib.hid (ceC_length hx)
  have HGL := Lib.hid (show (grC x.1).length = 21 by rw [grC, gcells_length _ _ _ _ _ _ hx.w.lk])
  have HGR := Lib.hid (cdC_gr hx.w.lk x.2.1 x.2.2)
  have HEN := Lib.hid (cdC_en hx.w.lk x.2.1 x.2.2)
  have HKY := Lib.hid hx.w.lk
  have HLC := Lib.hid hx.lc
  have HLS := Lib.hid hx.ls
  have S00 := Lib.hid (h.none G0.out)
  have HP := Lib.hid hp
  have HGO := Lib.hid hg
  have HR := Lib.hid (show rightC x.1 = true by unfold rightC; rw [hp, hg]; rfl)
  have HO := Lib.hid ho
  have HXO := Lib.hid hx
  have d1 : decide (x.1.en < now) = false := decide_eq_false ho
  have HSV := Lib.hid (cdC_sv x.1 x.2.1 x.2.2)
  obtain ⟨n, hn⟩ : ∃ n, E.length = n := ⟨_, rfl⟩
  have HN := Lib.hid hn
  have HN8 := Lib.hid (show n ≤ 8 by rw [← hn]; exact h.2.2.2)
  have HEO := Lib.hid h.2.2.1
  have HBM := Lib.hid h.1
  have HWS := Lib.hid h
  obtain ⟨L, hL⟩ : ∃ L, liveE E now = L := ⟨_, rfl⟩
  have HL := Lib.hid hL
  obtain ⟨nL, hnL⟩ : ∃ n, L.length = n := ⟨_, rfl⟩
  have HNL := Lib.hid hnL
  have HNL8 := Lib.hid (show nL ≤ 8 by rw [← hnL, ← hL]; have := liveE_len (E := E) (now := now); have := h.2.2.2; omega)
  have HOKL := Lib.hid (show ∀ y ∈ L, cdOk y.1 by rw [← hL]; exact liveE_ok h.2.2.1)
  have HAN := Lib.hid ha
  have H8 := Lib.hid h8
  have HA := Lib.hid (show atIc (atS nmC L x.1.sv) = -1 by rw [← hL, ha]; rfl)
  have dn : (8 : Int) ≤ (nL : Int) := by have := h8; rw [hL] at this; omega
  clear h hp hx hg ho ha h8 hn hL hnL
  go_enter Tryd.func10, Tryd.ntmps10
  go_wp2_with (first
    | (go_at_call 21; refine (refNamedB_any ⟨x.1.cl.toArray⟩ x.1.cl rfl _ (Nat.le_trans HLC.out (by omega))).mono ?_; rintro r w1 ⟨rfl, g1⟩; rw [HP.out]; have G1 := Lib.hid (grown_trans' G0.out g1); have B1 := Lib.hid (B0.out.kept g1); have S1 := Lib.hid (S00.out.none g1); clear g1 q1)
    | refine wpList_loadCg (off := 2) (p := grC x.1) aggGc (by first | rfl | go_simp) (.tmp 17) rfl B1.out HGR.out (by rw [HLX.out]; omega) (by first | rfl | go_simp) ?_
    | (go_at_call 22; refine (refRightG_any ⟨x.1.sv.toArray⟩ x.1.sv x.1.ky (x.1.no : Int) x.1.st x.1.en x.1.fl _ rfl HKY.out (Nat.le_trans HLS.out (by omega))).mono ?_; rintro r w2 ⟨rfl, g2⟩; rw [HGO.out]; have G2 := Lib.hid (grown_trans' G1.out g2); have B2 := Lib.hid (B1.out.kept g2); have S2 := Lib.hid (S1.out.none g2); have q2 := B2.out.at_ HEN.out; clear g2))
  clear q2 d1
  have HB2 := Lib.hid (show B ≤ w2.heap.size by obtain ⟨v, hc, -⟩ := S2.out.2.1; have h1 := hc.lt; have h2 := S2.out.1; omega)
  have SZ := Lib.hid S2.out
  go_loopw [7, 8] (fun v i wr => ∃ k : Nat, k ≤ n ∧ i = .int .i64 k ∧ RowX wr w2.heap.size 38 23 v ((liveE (E.take k) now).map ceC) ∧ w2.grownBy wr none) (fun _ i _ => n - (intOf i).toNat)
  case atStart => exact ⟨0, Nat.zero_le _, rfl, RowX.new0 _ _ _ _ (Nat.le_refl _), grown_alloc _ _ _⟩
  case round =>
    obtain ⟨k, hk, rfl, hrow, hW⟩ := hrel
    have HW := Lib.hid hW
    have ROW := Lib.hid hrow
    have hn0 := HN8.out
    have HLR := Lib.hid (show ((liveE (E.take k) now).map ceC).length ≤ 1000000000 by rw [List.length_map]; have h1 := liveE_len (E := E.take k) (now := now); rw [List.length_take] at h1; omega)
    clear hW hrow
    by_cases hlt : k < n
    · have hlti : (k : Int) < (n : Int) := by omega
      have hkE : k < E.length := by rw [HN.out]; exact hlt
      obtain ⟨y, hy⟩ : ∃ y, E[k]? = some y := ⟨_, List.getElem?_eq_getElem hkE⟩
      have HY := Lib.hid hy
      obtain ⟨ab, ao, cap, hcb, hcells, -, -, hyo⟩ := lc_elem (SZ.out.none HW.out) hy
      rw [HN.out] at hcb
      have q0 := hcb.at_ (i := 0) (v := .slice (some ⟨ab, ao, none⟩) n cap) rfl
      have q1 := hcells 21 _ (cdC_en hyo.w.lk y.2.1 y.2.2)
      have HC := Lib.hid hcells
      have HLY := Lib.hid (ceC_length hyo)
      clear hcb hcells hyo hy
      by_cases hov : y.1.en < now
      · have hov2 : ¬ (now ≤ y.1.en) := by omega
        have HTK := Lib.hid (show liveE (E.take (k + 1)) now = liveE (E.take k) now by rw [liveE_take HY.out, if_pos hov, List.append_nil])
        clear hov
        go_wp2
        go_roundw
        case rel => exact ⟨k + 1, by omega, by go_num, by rw [HTK.out]; exact ROW.out, HW.out⟩
        case measure => simp [intOf]; omega
      · have hov2 : now ≤ y.1.en := by omega
        have HTK := Lib.hid (show (liveE (E.take (k + 1)) now).map ceC = (liveE (E.take k) now).map ceC ++ [ceC y] by rw [liveE_take HY.out, if_neg hov, List.map_append]; rfl)
        have TK0 := Lib.hid True.intro
        clear hov
        go_wp2_with (first
          | (have hx := TK0; clear hx TK0; refine wpList_loadX (p := ceC y) aggC rfl (.tmp 54) rfl (b := ab) (off := ao + k * 23) HC.out HLY.out (by first | rfl | go_simp) ?_; have TK1 := Lib.hid True.intro)
          | (have hx := TK1; clear hx TK1; refine wpList_lit1 (p := ceC y) Tryd.underlying28 aggC.hi zeroC_run HLY.out (by omega) (by omega) rfl (.tmp 55) rfl (by first | rfl | go_simp) ?_; have RL6 := Lib.hid (ROW.out.none (grown_alloc wr (.cells (ceC y).toArray 38) none)); have C6 := Lib.hid (CB.new wr 38 (ceC y)); have W6 := Lib.hid (grown_trans' HW.out (grown_alloc wr (.cells (ceC y).toArray 38) none)); have TK2 := Lib.hid True.intro)
          | (have hx := TK2; clear hx TK2; refine wpList_appX rowCc rfl (.tmp 48) (.tmp 56) rfl (b := wr.heap.size) (off := 0) (c := 1) RL6.out (fun j v hj => by have := C6.out.at_ hj; rwa [Nat.zero_add]) HLY.out (ceC_one y) (by first | rfl | go_simp) (by first | rfl | go_simp) HLR.out W6.out.size ?_; intro v7 w7 h5 g5 a5; have RL7 := Lib.hid h5; have W7 := Lib.hid (none_rowC W6.out g5 (fun g hg => (RL6.out.lt g hg).1)); clear h5 g5 a5))
        go_roundw
        case rel => exact ⟨k + 1, by omega, by go_num, by rw [HTK.out]; exact RL7.out, W7.out⟩
        case measure => simp [intOf]; omega
    · obtain rfl : k = n := by omega
      have HTA := Lib.hid (show liveE (E.take k) now = L by rw [List.take_of_length_le (Nat.le_of_eq HN.out)]; exact HL.out)
      have RL0 := ROW.out
      rw [HTA.out] at RL0
      obtain ⟨A7, c7, hv7, -, -⟩ := RL0.shape
      rw [List.length_map, HNL.out] at hv7
      subst hv7
      have RL := Lib.hid RL0
      have SW := Lib.hid (SZ.out.none HW.out)
      obtain ⟨A0, cap0, hcb0, -, -⟩ := SW.out.open_
      rw [HN.out] at hcb0
      have q0 := hcb0.at_ (i := 0) (v := .slice A0 k cap0) rfl
      have CM := Lib.hid hcb0
      have BW := Lib.hid (B2.out.kept HW.out)
      have GW := Lib.hid (grown_trans' G2.out HW.out)
      have hnlt : ¬ ((k : Int) < (k : Int)) := by omega
      have TS0 := Lib.hid True.intro
      clear RL0 hcb0 ROW HLR
      go_wp2_with (first
        | (have hx := TS0; refine wpList_storeC (off := 0) (p := [.slice A7 nL c7]) (n := 1) szLC rfl (.tmp 61) (.tmp 59) rfl (.slice A7 nL c7) rfl (by intro u hu; rw [List.mem_singleton.1 hu]; rfl) CM.out rfl (by simp) (by first | rfl | go_simp) (by first | rfl | go_simp) ?_; intro wS hS gS; rw [over_all _ _ (by simp)] at hS; have CS := Lib.hid hS; have RS := Lib.hid (RL.out.row gS (RL.out.ne_cells CM.out (by decide))); have BS2 := Lib.hid (BW.out.grown gS (cb_neC BW.out CM.out (by decide))); have GS := Lib.hid (grown_trans' (grown_some GW.out m) gS); have q5 := BS2.out.at_ HSV.out; have LS2 := Lib.hid (show LC wS B m L from ⟨HBM.out, ⟨_, CS.out, RS.out.base_ HB2.out⟩, HOKL.out, by rw [HNL.out]; exact HNL8.out⟩); clear hx TS0 hS gS)
        | (go_at_call 15; refine (cat_is _ B m L LS2.out x.1.sv (-1) HA.out).mono ?_; rintro r wn ⟨rfl, rfl⟩))
      go_ret
      exact ⟨L, 2, .inr (.inr ⟨HR.out, Int.not_lt.2 HO.out, .inr (.inl ⟨HAN.out, H8.out, HL.out.symm, rfl⟩)⟩), rfl, LS2.out, GS.out⟩
def CpfF (x : Ce) (m gE nL cap i : Nat) : Nat → Value → World → Prop
  | 0, v, _ => v = .pointer (some ⟨m, 0, none⟩)
  | 1, v, _ => v = .pointer (some ⟨m, 0, none⟩)
  | 2, v, _ => v = .pointer (some ⟨m, 0, none⟩)
  | 3, v, _ => v = .slice (some ⟨gE, 0, none⟩) nL cap
  | 4, v, _ => v = .int .i64 i
  | 5, v, _ => v = .agg (ceC x).toArray
  | 6, v, _ => v = .pointer (some ⟨gE, i * 23, none⟩)
  | _, _, _ => True
theorem CpfF.kept {x : Ce} {m gE nL cap i : Nat} : ∀ (q : Nat) (v : Value) (xa ya : World), CpfF x m gE nL cap i q v xa → CpfF x m gE nL cap i q v ya
  | 0, _, _, _, h => h
  | 1, _, _, _, h => h
  | 2, _, _, _, h => h
  | 3, _, _, _, h => h
  | 4, _, _, _, h => h
  | 5, _, _, _, h => h
  | 6, _, _, _, h => h
  | _ + 7, _, _, _, _ => by simp [CpfF]
set_option maxRecDepth 10000 in
set_option maxHeartbeats 2000000 in
theorem crefPut_known (w : World) (B m : Nat) (E : List Ce) (h : LC w B m E) (x : Ce) (hx : cdOk x.1) (now : Int) (hp : parses x.1.cl = true) (hg : gOk x.1.sv x.1.st x.1.en x.1.fl = true) (ho : ¬ x.1.en < now) (i : Nat) (ha : atS nmC (liveE E now) x.1.sv = some i) :
    Calls Tryd.prog 10 #[.pointer (some ⟨m, 0, none⟩), .agg (ceC x).toArray, .int .i64 now] w fun e w' => PutLC w B m E x now e w' := by
  have B0 := Lib.hid (CB.new w 38 (ceC x))
  have G0 := Lib.hid (grown_alloc w (.cells (ceC x).toArray 38) none)
  have q1 := B0.out.at_ (cdC_cl x.1 x.2.1 x.2.2)
  have HLX := Lib.hid (ceC_length hx)
  have HGL := Lib.hid (show (grC x.1).length = 21 by rw [grC, gcells_length _ _ _ _ _ _ hx.w.lk])
  have HGR := Lib.hid (cdC_gr hx.w.lk x.2.1 x.2.2)
  have HEN := Lib.hid (cdC_en hx.w.lk x.2.1 x.2.2)
  have HKY := Lib.hid hx.w.lk
  have HLC := Lib.hid hx.lc
  have HLS := Lib.hid hx.ls
  have S00 := Lib.hid (h.none G0.out)
  have HP := Lib.hid hp
  have HGO := Lib.hid hg
  have HR := Lib.hid (show rightC x.1 = true by unfold rightC; rw [hp, hg]; rfl)
  have HO := Lib.hid ho
  have HXO := Lib.hid hx
  have d1 : decide (x.1.en < now) = false := decide_eq_false ho
  have HSV := Lib.hid (cdC_sv x.1 x.2.1 x.2.2)
  obtain ⟨n, hn⟩ : ∃ n, E.length = n := ⟨_, rfl⟩
  have HN := Lib.hid hn
  have HN8 := Lib.hid (show n ≤ 8 by rw [← hn]; exact h.2.2.2)
  have HEO := Lib.hid h.2.2.1
  have HBM := Lib.hid h.1
  have HWS := Lib.hid h
  obtain ⟨L, hL⟩ : ∃ L, liveE E now = L := ⟨_, rfl⟩
  have HL := Lib.hid hL
  obtain ⟨nL, hnL⟩ : ∃ n, L.length = n := ⟨_, rfl⟩
  have HNL := Lib.hid hnL
  have HNL8 := Lib.hid (show nL ≤ 8 by rw [← hnL, ← hL]; have := liveE_len (E := E) (now := now); have := h.2.2.2; omega)
  have HOKL := Lib.hid (show ∀ y ∈ L, cdOk y.1 by rw [← hL]; exact liveE_ok h.2.2.1)
  have HAN := Lib.hid ha
  have HA := Lib.hid (show atIc (atS nmC L x.1.sv) = (i : Int) by rw [← hL, ha]; rfl)
  obtain ⟨y0, hy0, -, -⟩ := atS_some ha
  have hi0 := (List.getElem?_eq_some_iff.1 hy0).1
  rw [hL, hnL] at hi0
  have HI := Lib.hid hi0
  have HIN := Lib.hid (show (i : Int) < (nL : Int) by omega)
  have hge : ¬ ((i : Int) < 0) := by omega
  have dge : (0 : Int) ≤ (i : Int) := by omega
  clear h hp hx hg ho ha hn hL hnL hy0 hi0
  go_enter Tryd.func10, Tryd.ntmps10
  go_wp2_with (first
    | (go_at_call 21; refine (refNamedB_any ⟨x.1.cl.toArray⟩ x.1.cl rfl _ (Nat.le_trans HLC.out (by omega))).mono ?_; rintro r w1 ⟨rfl, g1⟩; rw [HP.out]; have G1 := Lib.hid (grown_trans' G0.out g1); have B1 := Lib.hid (B0.out.kept g1); have S1 := Lib.hid (S00.out.none g1); clear g1 q1)
    | refine wpList_loadCg (off := 2) (p := grC x.1) aggGc (by first | rfl | go_simp) (.tmp 17) rfl B1.out HGR.out (by rw [HLX.out]; omega) (by first | rfl | go_simp) ?_
    | (go_at_call 22; refine (refRightG_any ⟨x.1.sv.toArray⟩ x.1.sv x.1.ky (x.1.no : Int) x.1.st x.1.en x.1.fl _ rfl HKY.out (Nat.le_trans HLS.out (by omega))).mono ?_; rintro r w2 ⟨rfl, g2⟩; rw [HGO.out]; have G2 := Lib.hid (grown_trans' G1.out g2); have B2 := Lib.hid (B1.out.kept g2); have S2 := Lib.hid (S1.out.none g2); have q2 := B2.out.at_ HEN.out; clear g2))
  clear q2 d1
  have HB2 := Lib.hid (show B ≤ w2.heap.size by obtain ⟨v, hc, -⟩ := S2.out.2.1; have h1 := hc.lt; have h2 := S2.out.1; omega)
  have SZ := Lib.hid S2.out
  go_loopw [7, 8] (fun v i wr => ∃ k : Nat, k ≤ n ∧ i = .int .i64 k ∧ RowX wr w2.heap.size 38 23 v ((liveE (E.take k) now).map ceC) ∧ w2.grownBy wr none) (fun _ i _ => n - (intOf i).toNat)
  case atStart => exact ⟨0, Nat.zero_le _, rfl, RowX.new0 _ _ _ _ (Nat.le_refl _), grown_alloc _ _ _⟩
  case round =>
    obtain ⟨k, hk, rfl, hrow, hW⟩ := hrel
    have HW := Lib.hid hW
    have ROW := Lib.hid hrow
    have hn0 := HN8.out
    have HLR := Lib.hid (show ((liveE (E.take k) now).map ceC).length ≤ 1000000000 by rw [List.length_map]; have h1 := liveE_len (E := E.take k) (now := now); rw [List.length_take] at h1; omega)
    clear hW hrow
    by_cases hlt : k < n
    · have hlti : (k : Int) < (n : Int) := by omega
      have hkE : k < E.length := by rw [HN.out]; exact hlt
      obtain ⟨y, hy⟩ : ∃ y, E[k]? = some y := ⟨_, List.getElem?_eq_getElem hkE⟩
      have HY := Lib.hid hy
      obtain ⟨ab, ao, cap, hcb, hcells, -, -, hyo⟩ := lc_elem (SZ.out.none HW.out) hy
      rw [HN.out] at hcb
      have q0 := hcb.at_ (i := 0) (v := .slice (some ⟨ab, ao, none⟩) n cap) rfl
      have q1 := hcells 21 _ (cdC_en hyo.w.lk y.2.1 y.2.2)
      have HC := Lib.hid hcells
      have HLY := Lib.hid (ceC_length hyo)
      clear hcb hcells hyo hy
      by_cases hov : y.1.en < now
      · have hov2 : ¬ (now ≤ y.1.en) := by omega
        have HTK := Lib.hid (show liveE (E.take (k + 1)) now = liveE (E.take k) now by rw [liveE_take HY.out, if_pos hov, List.append_nil])
        clear hov
        go_wp2
        go_roundw
        case rel => exact ⟨k + 1, by omega, by go_num, by rw [HTK.out]; exact ROW.out, HW.out⟩
        case measure => simp [intOf]; omega
      · have hov2 : now ≤ y.1.en := by omega
        have HTK := Lib.hid (show (liveE (E.take (k + 1)) now).map ceC = (liveE (E.take k) now).map ceC ++ [ceC y] by rw [liveE_take HY.out, if_neg hov, List.map_append]; rfl)
        have TK0 := Lib.hid True.intro
        clear hov
        go_wp2_with (first
          | (have hx := TK0; clear hx TK0; refine wpList_loadX (p := ceC y) aggC rfl (.tmp 54) rfl (b := ab) (off := ao + k * 23) HC.out HLY.out (by first | rfl | go_simp) ?_; have TK1 := Lib.hid True.intro)
          | (have hx := TK1; clear hx TK1; refine wpList_lit1 (p := ceC y) Tryd.underlying28 aggC.hi zeroC_run HLY.out (by omega) (by omega) rfl (.tmp 55) rfl (by first | rfl | go_simp) ?_; have RL6 := Lib.hid (ROW.out.none (grown_alloc wr (.cells (ceC y).toArray 38) none)); have C6 := Lib.hid (CB.new wr 38 (ceC y)); have W6 := Lib.hid (grown_trans' HW.out (grown_alloc wr (.cells (ceC y).toArray 38) none)); have TK2 := Lib.hid True.intro)
          | (have hx := TK2; clear hx TK2; refine wpList_appX rowCc rfl (.tmp 48) (.tmp 56) rfl (b := wr.heap.size) (off := 0) (c := 1) RL6.out (fun j v hj => by have := C6.out.at_ hj; rwa [Nat.zero_add]) HLY.out (ceC_one y) (by first | rfl | go_simp) (by first | rfl | go_simp) HLR.out W6.out.size ?_; intro v7 w7 h5 g5 a5; have RL7 := Lib.hid h5; have W7 := Lib.hid (none_rowC W6.out g5 (fun g hg => (RL6.out.lt g hg).1)); clear h5 g5 a5))
        go_roundw
        case rel => exact ⟨k + 1, by omega, by go_num, by rw [HTK.out]; exact RL7.out, W7.out⟩
        case measure => simp [intOf]; omega
    · obtain rfl : k = n := by omega
      have HTA := Lib.hid (show liveE (E.take k) now = L by rw [List.take_of_length_le (Nat.le_of_eq HN.out)]; exact HL.out)
      have RL0 := ROW.out
      rw [HTA.out] at RL0
      obtain ⟨A7, c7, hv7, -, -⟩ := RL0.shape
      rw [List.length_map, HNL.out] at hv7
      subst hv7
      have RL := Lib.hid RL0
      have SW := Lib.hid (SZ.out.none HW.out)
      obtain ⟨A0, cap0, hcb0, -, -⟩ := SW.out.open_
      rw [HN.out] at hcb0
      have q0 := hcb0.at_ (i := 0) (v := .slice A0 k cap0) rfl
      have CM := Lib.hid hcb0
      have BW := Lib.hid (B2.out.kept HW.out)
      have GW := Lib.hid (grown_trans' G2.out HW.out)
      have hnlt : ¬ ((k : Int) < (k : Int)) := by omega
      have TS0 := Lib.hid True.intro
      clear RL0 hcb0 ROW HLR
      go_wp2_with (first
        | (have hx := TS0; refine wpList_storeC (off := 0) (p := [.slice A7 nL c7]) (n := 1) szLC rfl (.tmp 61) (.tmp 59) rfl (.slice A7 nL c7) rfl (by intro u hu; rw [List.mem_singleton.1 hu]; rfl) CM.out rfl (by simp) (by first | rfl | go_simp) (by first | rfl | go_simp) ?_; intro wS hS gS; rw [over_all _ _ (by simp)] at hS; have CS := Lib.hid hS; have RS := Lib.hid (RL.out.row gS (RL.out.ne_cells CM.out (by decide))); have BS2 := Lib.hid (BW.out.grown gS (cb_neC BW.out CM.out (by decide))); have GS := Lib.hid (grown_trans' (grown_some GW.out m) gS); have q5 := BS2.out.at_ HSV.out; have LS2 := Lib.hid (show LC wS B m L from ⟨HBM.out, ⟨_, CS.out, RS.out.base_ HB2.out⟩, HOKL.out, by rw [HNL.out]; exact HNL8.out⟩); clear hx TS0 hS gS)
        | (go_at_call 15; refine (cat_is _ B m L LS2.out x.1.sv ((i : Int)) HA.out).mono ?_; rintro r wn ⟨rfl, rfl⟩))
      obtain ⟨gE, cap, cs, hv, hBg, hcE, hnc, hcl, hne, -⟩ := lc_open3 CS.out RS.out (by rw [HNL.out]; have := HI.out; omega)
      rw [HNL.out] at hv hnc
      injection hv with e1 e2 e3
      subst e1 e3
      have C4 := Lib.hid CS.out
      have E4 := Lib.hid hcE
      have B4 := Lib.hid BS2.out
      have HCL := Lib.hid hcl
      have HNC := Lib.hid hnc
      have HNE := Lib.hid hne
      have HBG := Lib.hid (show w.heap.size ≤ gE from Nat.le_trans G2.out.size hBg)
      obtain ⟨gw, hgw⟩ : ∃ g, w.heap.size = g := ⟨_, rfl⟩
      have HGW := Lib.hid hgw
      rw [hgw] at B4 ⊢
      clear hgw q5 hcE hcl hnc hne hBg
      refine region_last 7 [some 76, some 77, some 78, some 79, some 80, some 81, some 82, none] (fun xw => World.grownBy wn xw none) (CpfF x m gE nL c7 i) (fun _ xw => CB xw gE 38 (over cs (i * 23) (ceC x)) ∧ wn.grownBy xw (some gE)) (by kernel_rfl) (by kernel_rfl) rfl (by kernel_rfl) (by kernel_rfl) (fun _ _ hg h => grown_trans' h hg) (fun j v xa ya hg _ h => CpfF.kept j v xa ya h) (grown_drew (World.grownBy.refl _ _)) ⟨⟨⟨⟨⟨⟨⟨trivial, ?_⟩, ?_⟩, ?_⟩, ?_⟩, ?_⟩, ?_⟩, ?_⟩ ?_ ?_ ?_
      · refine Inv.duty_plain rfl rfl (fun L vs a xw hG dep up val ev out K hK => ?_)
        have e0 : a.eval (.tmp 0) = .pointer (some ⟨m, 0, none⟩) := (out 0 (by kernel_rfl)).trans rfl
        refine Inv.wp_value (v := .pointer (some ⟨m, 0, none⟩)) ?_ (hK.out _ _ (World.grownBy.refl xw _) rfl)
        clear hK K dep up val ev out
        generalize a.eval = ρ at *
        (simp [execOp, go_sem, *]; done)
      · refine Inv.duty_plain rfl rfl (fun L vs a xw hG dep up val ev out K hK => ?_)
        have L76 := dep 0 (by kernel_rfl)
        have e76 : a.eval (.tmp 76) = .pointer (some ⟨m, 0, none⟩) := (ev 0 76 L76 (by kernel_rfl)).trans (val 0 L76)
        refine Inv.wp_value (v := .pointer (some ⟨m, 0, none⟩)) ?_ (hK.out _ _ (World.grownBy.refl xw _) rfl)
        clear hK K dep up val ev out
        generalize a.eval = ρ at *
        (simp [execOp, go_sem, *]; done)
      · refine Inv.duty_plain rfl rfl (fun L vs a xw hG dep up val ev out K hK => ?_)
        have L77 := dep 1 (by kernel_rfl)
        have e77 : a.eval (.tmp 77) = .pointer (some ⟨m, 0, none⟩) := (ev 1 77 L77 (by kernel_rfl)).trans (val 1 L77)
        refine Inv.wp_value (v := .pointer (some ⟨m, 0, none⟩)) ?_ (hK.out _ _ (World.grownBy.refl xw _) rfl)
        clear hK K dep up val ev out
        generalize a.eval = ρ at *
        (simp [execOp, go_sem, *]; done)
      · refine Inv.duty_plain rfl rfl (fun L vs a xw hG dep up val ev out K hK => ?_)
        have L78 := dep 2 (by kernel_rfl)
        have e78 : a.eval (.tmp 78) = .pointer (some ⟨m, 0, none⟩) := (ev 2 78 L78 (by kernel_rfl)).trans (val 2 L78)
        have q0 : xw.cell? ⟨m, 0, none⟩ = some (.slice (some ⟨gE, 0, none⟩) nL c7) := (C4.out.kept hG).at_ rfl
        refine Inv.wp_value (v := .slice (some ⟨gE, 0, none⟩) nL c7) ?_ (hK.out _ _ (World.grownBy.refl xw _) rfl)
        clear hK K dep up val ev out
        generalize a.eval = ρ at *
        (simp [execOp, go_sem, *]; done)
      · refine Inv.duty_plain rfl rfl (fun L vs a xw hG dep up val ev out K hK => ?_)
        have e9 : a.eval (.tmp 9) = .int .i64 i := (out 9 (by kernel_rfl)).trans rfl
        refine Inv.wp_value (v := .int .i64 i) ?_ (hK.out _ _ (World.grownBy.refl xw _) rfl)
        clear hK K dep up val ev out
        generalize a.eval = ρ at *
        (simp [execOp, go_sem, *]; done)
      · refine Inv.duty_plain rfl rfl (fun L vs a xw hG dep up val ev out K hK => ?_)
        have e4 : a.eval (.tmp 4) = .pointer (some ⟨gw, 0, none⟩) := (out 4 (by kernel_rfl)).trans rfl
        exact wp_loadC aggC (.tmp 4) rfl (B4.out.kept hG) (take_all HLX.out) (by rw [HLX.out]; omega) e4 (hK.out _ _ (World.grownBy.refl xw _) rfl)
      · refine Inv.duty_plain rfl rfl (fun L vs a xw hG dep up val ev out K hK => ?_)
        have L79 := dep 3 (by kernel_rfl)
        have e79 : a.eval (.tmp 79) = .slice (some ⟨gE, 0, none⟩) nL c7 := (ev 3 79 L79 (by kernel_rfl)).trans (val 3 L79)
        have L80 := dep 4 (by kernel_rfl)
        have e80 : a.eval (.tmp 80) = .int .i64 i := (ev 4 80 L80 (by kernel_rfl)).trans (val 4 L80)
        have hin := HIN.out
        have hn0 := HNL8.out
        refine Inv.wp_value (v := .pointer (some ⟨gE, i * 23, none⟩)) ?_ (hK.out _ _ (World.grownBy.refl xw _) rfl)
        clear hK K dep up val ev out
        generalize a.eval = ρ at *
        (simp [execOp, go_sem, *]; done)
      · intro o ho
        injection ho with ho
        subst ho
        refine ⟨rfl, fun vs a xw hG hF ev out K hK => ?_⟩
        have e1 : a.eval (.tmp 82) = .pointer (some ⟨gE, i * 23, none⟩) := (ev 6 82 (by omega) (by kernel_rfl)).trans (hF 6 (by omega))
        have e2 : a.eval (.tmp 81) = .agg (ceC x).toArray := (ev 5 81 (by omega) (by kernel_rfl)).trans (hF 5 (by omega))
        refine wp_storeC (d := none) (off := i * 23) (p := ceC x) (n := 23) (by kernel_rfl) rfl (.tmp 82) (.tmp 81) rfl (.agg (ceC x).toArray) rfl (ceC_one _) (E4.out.kept hG) HLX.out (by have h1 := HCL.out; have h2 := HNC.out; have h3 := HI.out; rw [h1]; omega) e1 e2 ?_
        intro w' hc' hg'
        exact hK.out _ _ ⟨hc', grown_trans' (grown_some hG gE) hg'⟩
      · intro vs vs' xw _ h
        exact h
      · rintro vs w' ⟨hc, hg⟩
        simp only [Inv.putAll, Act.put, List.setIfInBounds_toArray, List.set_cons_zero, List.set_cons_succ, Nat.zero_add, Nat.reduceAdd]
        have HC := Lib.hid hc
        have HG := Lib.hid hg
        clear hc hg
        go_wp2
        go_ret
        refine ⟨L.set i x, 0, .inr (.inr ⟨HR.out, Int.not_lt.2 HO.out, .inl ⟨i, HAN.out, by rw [HL.out], rfl⟩⟩), rfl, ⟨HBM.out, ⟨_, CS.out.grown HG.out (Ne.symm HNE.out), (row_set HNL.out E4.out RS.out HI.out HXO.out HC.out).base_ HB2.out⟩, fun y hy => ?_, by rw [List.length_set, HNL.out]; exact HNL8.out⟩, grown_nwC GS.out HG.out HBG.out⟩
        rcases List.mem_or_eq_of_mem_set hy with hy | rfl
        · exact HOKL.out y hy
        · exact HXO.out
end Go.Proofs.YtfpcabfpnekejaaDoor
