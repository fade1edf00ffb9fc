/- The walk of the document's Put (cache): a ticket that is new. -/
import Derived.Test.YtfpcabfpnekejaaDoorCpf
namespace Go.Proofs.YtfpcabfpnekejaaDoor
open Go.RowKit Go.Maps

section
variable (m hd b7 : Nat) (VL : Value) (wd : World) (P : List (List Value)) (X : List Value)
def CpgH (L : Nat → Bool) (x : World) : Prop := (L 10 = false → Below hd wd x) ∧ (L 7 = false → L 10 = false → RowX x b7 38 23 VL P)
def CpgV (L : Nat → Bool) : Nat → Value → World → Prop
  | 6, v, x => L 6 = true → L 7 = false → L 10 = false → ∃ g, v = .slice (some ⟨g, 0, none⟩) 1 1 ∧ CB x g 38 X
  | 7, v, x => L 7 = true → L 6 = true ∧ (L 10 = false → RowX x b7 38 23 v (P ++ [X]))
  | 10, _, x => L 10 = true → (∀ j, j < 10 → L j = true) ∧ (∃ y, Below hd wd y ∧ y.grownBy x (some m)) ∧ ∃ v, CB x m 30 [v] ∧ RowX x b7 38 23 v (P ++ [X])
  | 0, v, _ => L 0 = true → v = .pointer (some ⟨m, 0, none⟩)
  | 1, v, _ => L 1 = true → v = .pointer (some ⟨m, 0, none⟩)
  | 2, v, _ => L 2 = true → v = .pointer (some ⟨m, 0, none⟩)
  | 3, v, _ => L 3 = true → v = .pointer (some ⟨m, 0, none⟩)
  | 4, v, _ => L 4 = true → v = VL
  | 5, v, _ => L 5 = true → v = .agg X.toArray
  | 8, v, _ => L 8 = true → v = .pointer (some ⟨m, 0, none⟩)
  | 9, v, _ => L 9 = true → v = .pointer (some ⟨m, 0, none⟩)
  | _, _, _ => True
def CpgF (L : Nat → Bool) (j : Nat) (v : Value) (x : World) : Prop := CpgH hd b7 VL wd P L x ∧ CpgV m hd b7 VL wd P X L j v x
def CpgT : Nat → World → World → Prop
  | 6, x, y => x.grownBy y none ∧ Below hd x y
  | 7, x, y => Below hd x y
  | 10, _, _ => True
  | _, x, y => x = y
end
section
variable {m hd b7 : Nat} {VL : Value} {wd : World} {P : List (List Value)} {X : List Value} {L : Nat → Bool}
theorem CpgH.more {i : Nat} {x : World} (h7 : i ≠ 7) (h10 : i ≠ 10) (h : CpgH hd b7 VL wd P L x) : CpgH hd b7 VL wd P (Inv.moreT i L) x := by
  unfold CpgH at *
  rw [moreT_neW (Ne.symm h7), moreT_neW (Ne.symm h10)]
  exact h
theorem CpgT.below {k : Nat} {x y : World} (h : CpgT hd k x y) (hk : k ≠ 10) : Below hd x y := by
  unfold CpgT at h
  split at h
  · exact h.2
  · exact h
  · exact absurd rfl hk
  · subst h; exact Below.refl _ _
theorem CpgT.same {k : Nat} {x y : World} (h : CpgT hd k x y) (h6 : k ≠ 6) (h7 : k ≠ 7) (h10 : k ≠ 10) : x = y := by
  unfold CpgT at h
  split at h
  · exact absurd rfl h6
  · exact absurd rfl h7
  · exact absurd rfl h10
  · exact h
theorem CpgF.step (k j : Nat) (L : Nat → Bool) (v : Value) (x y : World) (hne : j ≠ k) (hL : L k = false) (hT : CpgT hd k x y) (h : CpgF m hd b7 VL wd P X L j v x) : CpgF m hd b7 VL wd P X (Inv.moreT k L) j v y := by
  refine ⟨⟨fun h10 => ?_, fun h7 h10 => ?_⟩, ?_⟩
  · by_cases e : k = 10
    · subst e; rw [moreT_atW] at h10; cases h10
    · rw [moreT_neW (fun q => e q.symm)] at h10
      exact (h.1.1 h10).trans (hT.below e)
  · have e10 : k ≠ 10 := fun e => by subst e; rw [moreT_atW] at h10; cases h10
    have e7 : k ≠ 7 := fun e => by subst e; rw [moreT_atW] at h7; cases h7
    rw [moreT_neW (fun q => e10 q.symm)] at h10
    rw [moreT_neW (fun q => e7 q.symm)] at h7
    have hr := h.1.2 h7 h10
    by_cases e6 : k = 6
    · subst e6; exact hr.none hT.1
    · rw [← hT.same e6 e7 e10]; exact hr
  · have hv := h.2
    unfold CpgV at hv ⊢
    split at hv
    · intro a6 a7 a10
      rw [moreT_neW hne] at a6
      have e7 : k ≠ 7 := fun e => by subst e; rw [moreT_atW] at a7; cases a7
      have e10 : k ≠ 10 := fun e => by subst e; rw [moreT_atW] at a10; cases a10
      rw [moreT_neW (fun q => e7 q.symm)] at a7
      rw [moreT_neW (fun q => e10 q.symm)] at a10
      rw [← hT.same (fun q => hne q.symm) e7 e10]
      exact hv a6 a7 a10
    · intro a7
      rw [moreT_neW hne] at a7
      obtain ⟨b6, hv⟩ := hv a7
      have e6 : k ≠ 6 := fun e => by subst e; rw [hL] at b6; cases b6
      refine ⟨by rw [moreT_neW (fun q => e6 q.symm)]; exact b6, fun a10 => ?_⟩
      have e10 : k ≠ 10 := fun e => by subst e; rw [moreT_atW] at a10; cases a10
      rw [moreT_neW (fun q => e10 q.symm)] at a10
      rw [← hT.same e6 (fun q => hne q.symm) e10]
      exact hv a10
    · intro a10
      rw [moreT_neW hne] at a10
      obtain ⟨ba, hv⟩ := hv a10
      have hk : ¬ k < 10 := fun q => by have := ba k q; rw [hL] at this; cases this
      refine ⟨fun q hq => by rw [moreT_neW (by omega)]; exact ba q hq, ?_⟩
      rw [← hT.same (by omega) (by omega) (fun q => hne q.symm)]
      exact hv
    · exact fun a => hv (by rwa [moreT_neW hne] at a)
    · exact fun a => hv (by rwa [moreT_neW hne] at a)
    · exact fun a => hv (by rwa [moreT_neW hne] at a)
    · exact fun a => hv (by rwa [moreT_neW hne] at a)
    · exact fun a => hv (by rwa [moreT_neW hne] at a)
    · exact fun a => hv (by rwa [moreT_neW hne] at a)
    · exact fun a => hv (by rwa [moreT_neW hne] at a)
    · exact fun a => hv (by rwa [moreT_neW hne] at a)
    · trivial
end
theorem below_nw {a b c : World} {r : Option Nat} {hd : Nat} (h : a.grownBy b r) (k : Below hd b c) (hl : a.heap.size ≤ hd) : a.grownBy c r := ⟨k.os.trans h.os, k.tape.trans h.tape, k.output.trans h.output, Nat.le_trans h.size k.size, fun i hi hr => (k.block i (Nat.lt_of_lt_of_le hi hl)).trans (h.block i hi hr)⟩
theorem grown_drewC (w : World) (q : Nat) (r : Option Nat) : w.grownBy (World.drewN w q) r := ⟨rfl, rfl, rfl, Nat.le_refl _, fun _ _ _ => rfl⟩
def CphF (y : Ce) (m gE nL c9 j : Nat) : Nat → Value → World → Prop
  | 0, v, _ => v = .pointer (some ⟨m, 0, none⟩)
  | 1, v, _ => v = .pointer (some ⟨m, 0, none⟩)
  | 2, v, _ => v = .pointer (some ⟨m, 0, none⟩)
  | 3, v, _ => v = .slice (some ⟨gE, 0, none⟩) (nL + 1) c9
  | 4, v, _ => v = .int .i64 ((j + 1 : Nat) : Int)
  | 5, v, _ => v = .pointer (some ⟨m, 0, none⟩)
  | 6, v, _ => v = .pointer (some ⟨m, 0, none⟩)
  | 7, v, _ => v = .pointer (some ⟨m, 0, none⟩)
  | 8, v, _ => v = .slice (some ⟨gE, 0, none⟩) (nL + 1) c9
  | 9, v, _ => v = .int .i64 ((j + 1 : Nat) : Int)
  | 10, v, _ => v = .int .i64 j
  | 11, v, _ => v = .pointer (some ⟨gE, j * 23, none⟩)
  | 12, v, _ => v = .agg (ceC y).toArray
  | 13, v, _ => v = .pointer (some ⟨gE, (j + 1) * 23, none⟩)
  | _, _, _ => True
theorem CphF.kept {y : Ce} {m gE nL c9 j : Nat} : ∀ (q : Nat) (v : Value) (xa ya : World), CphF y m gE nL c9 j q v xa → CphF y m gE nL c9 j q v ya
  | 0, _, _, _, h => h
  | 1, _, _, _, h => h
  | 2, _, _, _, h => h
  | 3, _, _, _, h => h
  | 4, _, _, _, h => h
  | 5, _, _, _, h => h
  | 6, _, _, _, h => h
  | 7, _, _, _, h => h
  | 8, _, _, _, h => h
  | 9, _, _, _, h => h
  | 10, _, _, _, h => h
  | 11, _, _, _, h => h
  | 12, _, _, _, h => h
  | 13, _, _, _, h => h
  | _ + 14, _, _, _, _ => by simp [CphF]
def CpiF (x : Ce) (m gE nL c9 j : Nat) : Nat → Value → World → Prop
  | 0, v, _ => v = .pointer (some ⟨m, 0, none⟩)
  | 1, v, _ => v = .pointer (some ⟨m, 0, none⟩)
  | 2, v, _ => v = .pointer (some ⟨m, 0, none⟩)
  | 3, v, _ => v = .slice (some ⟨gE, 0, none⟩) (nL + 1) c9
  | 4, v, _ => v = .int .i64 ((j + 1 : Nat) : Int)
  | 5, v, _ => v = .int .i64 j
  | 6, v, _ => v = .agg (ceC x).toArray
  | 7, v, _ => v = .pointer (some ⟨gE, j * 23, none⟩)
  | _, _, _ => True
theorem CpiF.kept {x : Ce} {m gE nL c9 j : Nat} : ∀ (q : Nat) (v : Value) (xa ya : World), CpiF x m gE nL c9 j q v xa → CpiF x m gE nL c9 j q v ya
  | 0, _, _, _, h => h
  | 1, _, _, _, h => h
  | 2, _, _, _, h => h
  | 3, _, _, _, h => h
  | 4, _, _, _, h => h
  | 5, _, _, _, h => h
  | 6, _, _, _, h => h
  | 7, _, _, _, h => h
  | _ + 8, _, _, _, _ => by simp [CpiF]
theorem wp_loadXc {P : Program} {w : World} {o : Oper} {a : Act} {Q : Exit → Act → World → Prop} {ty : TypeId} {n : Nat} {p : List Value} {K : Act → World → Prop} (hT : AggT P ty n) (x : Operand) (ho : o.op = .load ty x) {b off : Nat} (hc : ∀ j v, p[j]? = some v → w.cell? ⟨b, off + j, none⟩ = some v) (hp : p.length = n) (hx : a.eval x = .pointer (some ⟨b, off, none⟩))
    (hk : K (a.put o.dst (.agg p.toArray)) w) : o.wp P a w K Q := by
  unfold Oper.wp execOp
  simp only [ho, hx, Instr.loadAt, Instr.sureAddr, Sem.run_bind, Sem.run_pure, Result.andThen_ok, run_loadX hT hc hp]
  exact hk
set_option maxRecDepth 10000 in
set_option maxHeartbeats 2000000 in
theorem crefPut_new (w : World) (B m : Nat) (E : List Ce) (h : LC w B m E) (x : Ce) (hx : cdOk x.1) (now : Int) (hp : parses x.1.cl = true) (hg : gOk x.1.sv x.1.st x.1.en x.1.fl = true) (ho : ¬ x.1.en < now) (hs : SortN nmC (liveE E now)) (ha : atS nmC (liveE E now) x.1.sv = none) (h8 : (liveE E now).length < 8) :
    Calls Tryd.prog 10 #[.pointer (some ⟨m, 0, none⟩), .agg (ceC x).toArray, .int .i64 now] w fun e w' => PutLC w B m E x now e w' := by
  have B0 := Lib.hid (CB.new w 38 (ceC x))
  have G0 := Lib.hid (grown_alloc w (.cells (ceC x).toArray 38) none)
  have q1 := B0.out.at_ (cdC_cl x.1 x.2.1 x.2.2)
  have HLX := Lib.hid (ceC_length hx)
  have HGL := Lib.hid (show (grC x.1).length = 21 by rw [grC, gcells_length _ _ _ _ _ _ hx.w.lk])
  have HGR := Lib.hid (cdC_gr hx.w.lk x.2.1 x.2.2)
  have HEN := Lib.hid (cdC_en hx.w.lk x.2.1 x.2.2)
  have HKY := Lib.hid hx.w.lk
  have HLC := Lib.hid hx.lc
  have HLS := Lib.hid hx.ls
  have S00 := Lib.hid (h.none G0.out)
  have HP := Lib.hid hp
  have HGO := Lib.hid hg
  have HR := Lib.hid (show rightC x.1 = true by unfold rightC; rw [hp, hg]; rfl)
  have HO := Lib.hid ho
  have HXO := Lib.hid hx
  have d1 : decide (x.1.en < now) = false := decide_eq_false ho
  have HSV := Lib.hid (cdC_sv x.1 x.2.1 x.2.2)
  obtain ⟨n, hn⟩ : ∃ n, E.length = n := ⟨_, rfl⟩
  have HN := Lib.hid hn
  have HN8 := Lib.hid (show n ≤ 8 by rw [← hn]; exact h.2.2.2)
  have HEO := Lib.hid h.2.2.1
  have HBM := Lib.hid h.1
  have HWS := Lib.hid h
  obtain ⟨L0, hL⟩ : ∃ L, liveE E now = L := ⟨_, rfl⟩
  have HL := Lib.hid hL
  obtain ⟨nL, hnL⟩ : ∃ n, L0.length = n := ⟨_, rfl⟩
  have HNL := Lib.hid hnL
  have HNL8 := Lib.hid (show nL ≤ 8 by rw [← hnL, ← hL]; have := liveE_len (E := E) (now := now); have := h.2.2.2; omega)
  have HOKL := Lib.hid (show ∀ y ∈ L0, cdOk y.1 by rw [← hL]; exact liveE_ok h.2.2.1)
  have HAN := Lib.hid ha
  have HSO := Lib.hid (show SortN nmC L0 by rw [← hL]; exact hs)
  have H8 := Lib.hid (show nL < 8 by rw [← hnL, ← hL]; exact h8)
  have H8' := Lib.hid h8
  have HA := Lib.hid (show atIc (atS nmC L0 x.1.sv) = -1 by rw [← hL, ha]; rfl)
  have dn : ¬ ((8 : Int) ≤ (nL : Int)) := by have := h8; rw [hL] at this; omega
  clear h hp hx hg ho ha h8 hn hL hnL hs
  go_enter Tryd.func10, Tryd.ntmps10
  go_wp2_with (first
    | (go_at_call 21; refine (refNamedB_any ⟨x.1.cl.toArray⟩ x.1.cl rfl _ (Nat.le_trans HLC.out (by omega))).mono ?_; rintro r w1 ⟨rfl, g1⟩; rw [HP.out]; have G1 := Lib.hid (grown_trans' G0.out g1); have B1 := Lib.hid (B0.out.kept g1); have S1 := Lib.hid (S00.out.none g1); clear g1 q1)
    | refine wpList_loadCg (off := 2) (p := grC x.1) aggGc (by first | rfl | go_simp) (.tmp 17) rfl B1.out HGR.out (by rw [HLX.out]; omega) (by first | rfl | go_simp) ?_
    | (go_at_call 22; refine (refRightG_any ⟨x.1.sv.toArray⟩ x.1.sv x.1.ky (x.1.no : Int) x.1.st x.1.en x.1.fl _ rfl HKY.out (Nat.le_trans HLS.out (by omega))).mono ?_; rintro r w2 ⟨rfl, g2⟩; rw [HGO.out]; have G2 := Lib.hid (grown_trans' G1.out g2); have B2 := Lib.hid (B1.out.kept g2); have S2 := Lib.hid (S1.out.none g2); have q2 := B2.out.at_ HEN.out; clear g2))
  clear q2 d1
  have HB2 := Lib.hid (show B ≤ w2.heap.size by obtain ⟨v, hc, -⟩ := S2.out.2.1; have h1 := hc.lt; have h2 := S2.out.1; omega)
  have SZ := Lib.hid S2.out
  go_loopw [7, 8] (fun v i wr => ∃ k : Nat, k ≤ n ∧ i = .int .i64 k ∧ RowX wr w2.heap.size 38 23 v ((liveE (E.take k) now).map ceC) ∧ w2.grownBy wr none) (fun _ i _ => n - (intOf i).toNat)
  case atStart => exact ⟨0, Nat.zero_le _, rfl, RowX.new0 _ _ _ _ (Nat.le_refl _), grown_alloc _ _ _⟩
  case round =>
    obtain ⟨k, hk, rfl, hrow, hW⟩ := hrel
    have HW := Lib.hid hW
    have ROW := Lib.hid hrow
    have hn0 := HN8.out
    have HLR := Lib.hid (show ((liveE (E.take k) now).map ceC).length ≤ 1000000000 by rw [List.length_map]; have h1 := liveE_len (E := E.take k) (now := now); rw [List.length_take] at h1; omega)
    clear hW hrow
    by_cases hlt : k < n
    · have hlti : (k : Int) < (n : Int) := by omega
      have hkE : k < E.length := by rw [HN.out]; exact hlt
      obtain ⟨y, hy⟩ : ∃ y, E[k]? = some y := ⟨_, List.getElem?_eq_getElem hkE⟩
      have HY := Lib.hid hy
      obtain ⟨ab, ao, cap, hcb, hcells, -, -, hyo⟩ := lc_elem (SZ.out.none HW.out) hy
      rw [HN.out] at hcb
      have q0 := hcb.at_ (i := 0) (v := .slice (some ⟨ab, ao, none⟩) n cap) rfl
      have q1 := hcells 21 _ (cdC_en hyo.w.lk y.2.1 y.2.2)
      have HC := Lib.hid hcells
      have HLY := Lib.hid (ceC_length hyo)
      clear hcb hcells hyo hy
      by_cases hov : y.1.en < now
      · have hov2 : ¬ (now ≤ y.1.en) := by omega
        have HTK := Lib.hid (show liveE (E.take (k + 1)) now = liveE (E.take k) now by rw [liveE_take HY.out, if_pos hov, List.append_nil])
        clear hov
        go_wp2
        go_roundw
        case rel => exact ⟨k + 1, by omega, by go_num, by rw [HTK.out]; exact ROW.out, HW.out⟩
        case measure => simp [intOf]; omega
      · have hov2 : now ≤ y.1.en := by omega
        have HTK := Lib.hid (show (liveE (E.take (k + 1)) now).map ceC = (liveE (E.take k) now).map ceC ++ [ceC y] by rw [liveE_take HY.out, if_neg hov, List.map_append]; rfl)
        have TK0 := Lib.hid True.intro
        clear hov
        go_wp2_with (first
          | (have hx := TK0; clear hx TK0; refine wpList_loadX (p := ceC y) aggC rfl (.tmp 54) rfl (b := ab) (off := ao + k * 23) HC.out HLY.out (by first | rfl | go_simp) ?_; have TK1 := Lib.hid True.intro)
          | (have hx := TK1; clear hx TK1; refine wpList_lit1 (p := ceC y) Tryd.underlying28 aggC.hi zeroC_run HLY.out (by omega) (by omega) rfl (.tmp 55) rfl (by first | rfl | go_simp) ?_; have RL6 := Lib.hid (ROW.out.none (grown_alloc wr (.cells (ceC y).toArray 38) none)); have C6 := Lib.hid (CB.new wr 38 (ceC y)); have W6 := Lib.hid (grown_trans' HW.out (grown_alloc wr (.cells (ceC y).toArray 38) none)); have TK2 := Lib.hid True.intro)
          | (have hx := TK2; clear hx TK2; refine wpList_appX rowCc rfl (.tmp 48) (.tmp 56) rfl (b := wr.heap.size) (off := 0) (c := 1) RL6.out (fun j v hj => by have := C6.out.at_ hj; rwa [Nat.zero_add]) HLY.out (ceC_one y) (by first | rfl | go_simp) (by first | rfl | go_simp) HLR.out W6.out.size ?_; intro v7 w7 h5 g5 a5; have RL7 := Lib.hid h5; have W7 := Lib.hid (none_rowC W6.out g5 (fun g hg => (RL6.out.lt g hg).1)); clear h5 g5 a5))
        go_roundw
        case rel => exact ⟨k + 1, by omega, by go_num, by rw [HTK.out]; exact RL7.out, W7.out⟩
        case measure => simp [intOf]; omega
    · obtain rfl : k = n := by omega
      have HTA := Lib.hid (show liveE (E.take k) now = L0 by rw [List.take_of_length_le (Nat.le_of_eq HN.out)]; exact HL.out)
      have RL0 := ROW.out
      rw [HTA.out] at RL0
      obtain ⟨A7, c7, hv7, -, -⟩ := RL0.shape
      rw [List.length_map, HNL.out] at hv7
      subst hv7
      have RL := Lib.hid RL0
      have SW := Lib.hid (SZ.out.none HW.out)
      obtain ⟨A0, cap0, hcb0, -, -⟩ := SW.out.open_
      rw [HN.out] at hcb0
      have q0 := hcb0.at_ (i := 0) (v := .slice A0 k cap0) rfl
      have CM := Lib.hid hcb0
      have BW := Lib.hid (B2.out.kept HW.out)
      have GW := Lib.hid (grown_trans' G2.out HW.out)
      have hnlt : ¬ ((k : Int) < (k : Int)) := by omega
      have TS0 := Lib.hid True.intro
      clear RL0 hcb0 ROW HLR
      go_wp2_with (first
        | (have hx := TS0; refine wpList_storeC (off := 0) (p := [.slice A7 nL c7]) (n := 1) szLC rfl (.tmp 61) (.tmp 59) rfl (.slice A7 nL c7) rfl (by intro u hu; rw [List.mem_singleton.1 hu]; rfl) CM.out rfl (by simp) (by first | rfl | go_simp) (by first | rfl | go_simp) ?_; intro wS hS gS; rw [over_all _ _ (by simp)] at hS; have CS := Lib.hid hS; have RS := Lib.hid (RL.out.row gS (RL.out.ne_cells CM.out (by decide))); have BS2 := Lib.hid (BW.out.grown gS (cb_neC BW.out CM.out (by decide))); have GS := Lib.hid (grown_trans' (grown_some GW.out m) gS); have q5 := BS2.out.at_ HSV.out; have HWN := Lib.hid (show wr.heap.size ≤ wS.heap.size from gS.size); have LS2 := Lib.hid (show LC wS B m L0 from ⟨HBM.out, ⟨_, CS.out, RS.out.base_ HB2.out⟩, HOKL.out, by rw [HNL.out]; exact HNL8.out⟩); clear hx TS0 hS gS)
        | (go_at_call 15; refine (cat_is _ B m L0 LS2.out x.1.sv (-1) HA.out).mono ?_; rintro r wn ⟨rfl, rfl⟩))
      obtain ⟨gw, hgw⟩ : ∃ g, w.heap.size = g := ⟨_, rfl⟩
      have HGW := Lib.hid hgw
      have B4 := Lib.hid BS2.out
      rw [hgw] at B4 ⊢
      have HSZ := Lib.hid (show gw + 1 ≤ wn.heap.size from B4.out.lt)
      have HB7 := Lib.hid (show w2.heap.size ≤ wn.heap.size by obtain ⟨v, hc, -⟩ := S2.out.2.1; exact Nat.le_trans HW.out.size (by have := CS.out.lt; exact HWN.out))
      have HHB := Lib.hid (show gw + 1 ≤ w2.heap.size from B2.out.lt |> fun h => by rw [← HGW.out]; exact h)
      have HMB := Lib.hid (show m < gw + 1 by rw [← HGW.out]; obtain ⟨v, hc, -⟩ := HWS.out.2.1; have := hc.lt; omega)
      have CBD := Lib.hid (show ∀ y, Below (gw + 1) wn.drew y → CB y m 30 [.slice A7 nL c7] from fun y hy => (show CB wn.drew m _ _ from CS.out).below hy HMB.out)
      have BXD := Lib.hid (show ∀ y, Below (gw + 1) wn.drew y → CB y gw 38 (ceC x) from fun y hy => (show CB wn.drew gw _ _ from B4.out).below hy (Nat.lt_succ_self _))
      clear hgw q5 dn
      refine region_byW (n := 11) (ds := [some 83, some 84, some 85, some 86, some 87, some 88, some 89, some 90, some 91, some 92, none]) (CpgT (gw + 1)) (CpgF m (gw + 1) w2.heap.size (.slice A7 nL c7) wn.drew (L0.map ceC) (ceC x)) (by kernel_rfl) (by kernel_rfl) rfl (by kernel_rfl) CpgF.step (fun j => ⟨⟨fun _ => Below.refl _ _, fun _ _ => RS.out⟩, ?_⟩) ⟨⟨⟨⟨⟨⟨⟨⟨⟨⟨⟨trivial, ?_⟩, ?_⟩, ?_⟩, ?_⟩, ?_⟩, ?_⟩, ?_⟩, ?_⟩, ?_⟩, ?_⟩, ?_⟩ ?_
      · unfold CpgV
        split <;> first | trivial | (intro h; cases h)
      · refine Inv.dutyW_plain rfl rfl (fun L vs a xw l0 hU dep up val ev out K hK => ?_)
        have e0 : a.eval (.tmp 0) = .pointer (some ⟨m, 0, none⟩) := (out 0 (Inv.ne_of_outB (by kernel_rfl))).trans rfl
        refine Inv.wp_value (v := .pointer (some ⟨m, 0, none⟩)) ?_ (hK.out _ _ rfl ⟨(CpgH.more (i := 0) (by omega) (by omega) hU.1), fun _ => rfl⟩)
        clear hU hK K dep up val ev out l0
        generalize a.eval = ρ at *
        (simp [execOp, go_sem, *]; done)
      · refine Inv.dutyW_plain rfl rfl (fun L vs a xw l0 hU dep up val ev out K hK => ?_)
        have e0 : a.eval (.tmp 0) = .pointer (some ⟨m, 0, none⟩) := (out 0 (Inv.ne_of_outB (by kernel_rfl))).trans rfl
        refine Inv.wp_value (v := .pointer (some ⟨m, 0, none⟩)) ?_ (hK.out _ _ rfl ⟨(CpgH.more (i := 1) (by omega) (by omega) hU.1), fun _ => rfl⟩)
        clear hU hK K dep up val ev out l0
        generalize a.eval = ρ at *
        (simp [execOp, go_sem, *]; done)
      · refine Inv.dutyW_plain rfl rfl (fun L vs a xw l0 hU dep up val ev out K hK => ?_)
        have L84 : L 1 = true := dep 1 (by kernel_rfl)
        have e84 : a.eval (.tmp 84) = .pointer (some ⟨m, 0, none⟩) := (ev 1 84 L84 (by kernel_rfl)).trans ((val 1 L84).2 L84)
        refine Inv.wp_value (v := .pointer (some ⟨m, 0, none⟩)) ?_ (hK.out _ _ rfl ⟨(CpgH.more (i := 2) (by omega) (by omega) hU.1), fun _ => rfl⟩)
        clear hU hK K dep up val ev out l0
        generalize a.eval = ρ at *
        (simp [execOp, go_sem, *]; done)
      · refine Inv.dutyW_plain rfl rfl (fun L vs a xw l0 hU dep up val ev out K hK => ?_)
        have L85 : L 2 = true := dep 2 (by kernel_rfl)
        have e85 : a.eval (.tmp 85) = .pointer (some ⟨m, 0, none⟩) := (ev 2 85 L85 (by kernel_rfl)).trans ((val 2 L85).2 L85)
        refine Inv.wp_value (v := .pointer (some ⟨m, 0, none⟩)) ?_ (hK.out _ _ rfl ⟨(CpgH.more (i := 3) (by omega) (by omega) hU.1), fun _ => rfl⟩)
        clear hU hK K dep up val ev out l0
        generalize a.eval = ρ at *
        (simp [execOp, go_sem, *]; done)
      · refine Inv.dutyW_plain rfl rfl (fun L vs a xw l0 hU dep up val ev out K hK => ?_)
        have L86 : L 3 = true := dep 3 (by kernel_rfl)
        have e86 : a.eval (.tmp 86) = .pointer (some ⟨m, 0, none⟩) := (ev 3 86 L86 (by kernel_rfl)).trans ((val 3 L86).2 L86)
        have q0 : xw.cell? ⟨m, 0, none⟩ = some (.slice A7 nL c7) := (CBD.out xw (hU.1.1 (show L 10 = false by cases hq : L 10 with | false => rfl | true => (have hz := up 10 4 hq (by kernel_rfl); rw [l0] at hz; cases hz)))).at_ rfl
        refine Inv.wp_value (v := .slice A7 nL c7) ?_ (hK.out _ _ rfl ⟨(CpgH.more (i := 4) (by omega) (by omega) hU.1), fun _ => rfl⟩)
        clear hU hK K dep up val ev out l0
        generalize a.eval = ρ at *
        (simp [execOp, go_sem, *]; done)
      · refine Inv.dutyW_plain rfl rfl (fun L vs a xw l0 hU dep up val ev out K hK => ?_)
        have e4 : a.eval (.tmp 4) = .pointer (some ⟨gw, 0, none⟩) := (out 4 (Inv.ne_of_outB (by kernel_rfl))).trans rfl
        exact wp_loadC aggC (.tmp 4) rfl (BXD.out xw (hU.1.1 (show L 10 = false by cases hq : L 10 with | false => rfl | true => (have hz := up 10 5 hq (by kernel_rfl); rw [l0] at hz; cases hz)))) (take_all HLX.out) (by rw [HLX.out]; omega) e4 (hK.out _ _ rfl ⟨(CpgH.more (i := 5) (by omega) (by omega) hU.1), fun _ => rfl⟩)
      · refine Inv.dutyW_plain rfl rfl (fun L vs a xw l0 hU dep up val ev out K hK => ?_)
        have L88 : L 5 = true := dep 5 (by kernel_rfl)
        have e88 : a.eval (.tmp 88) = .agg (ceC x).toArray := (ev 5 88 L88 (by kernel_rfl)).trans ((val 5 L88).2 L88)
        have hb := hU.1.1 (show L 10 = false by cases hq : L 10 with | false => rfl | true => (have hz := up 10 6 hq (by kernel_rfl); rw [l0] at hz; cases hz))
        have hbel : Below (gw + 1) xw (xw.alloc (.cells (ceC x).toArray 38)) := (Below.refl _ _).alloc (Nat.le_trans HSZ.out hb.size) _
        exact wp_lit1 Tryd.underlying28 aggC.hi zeroC_run HLX.out (by omega) (by omega) (.tmp 88) rfl e88 (hK.out _ _ ⟨grown_alloc xw _ none, hbel⟩ ⟨⟨fun h10 => hb.trans hbel, fun h7 h10 => (hU.1.2 (by rwa [moreT_neW (show (7 : Nat) ≠ 6 by omega)] at h7) (by rwa [moreT_neW (show (10 : Nat) ≠ 6 by omega)] at h10)).none (grown_alloc xw _ none)⟩, fun _ _ _ => ⟨xw.heap.size, rfl, CB.new xw _ _⟩⟩)
      · refine Inv.dutyW_plain rfl rfl (fun L vs a xw l0 hU dep up val ev out K hK => ?_)
        have L87 : L 4 = true := dep 4 (by kernel_rfl)
        have e87 : a.eval (.tmp 87) = .slice A7 nL c7 := (ev 4 87 L87 (by kernel_rfl)).trans ((val 4 L87).2 L87)
        have L89 : L 6 = true := dep 6 (by kernel_rfl)
        have e89 := ev 6 89 L89 (by kernel_rfl)
        have f89 := (val 6 L89).2 L89
        have h10 := (show L 10 = false by cases hq : L 10 with | false => rfl | true => (have hz := up 10 7 hq (by kernel_rfl); rw [l0] at hz; cases hz))
        have hb := hU.1.1 h10
        obtain ⟨g, hv, hc⟩ := f89 l0 h10
        have hrow := hU.1.2 l0 h10
        refine wp_appX rowCc (.tmp 87) (.tmp 89) rfl (b := g) (off := 0) (c := 1) hrow (fun j v hj => by have := hc.at_ hj; rwa [Nat.zero_add]) HLX.out (ceC_one x) e87 (e89.trans hv) (by rw [List.length_map, HNL.out]; have := HNL8.out; omega) (Nat.le_trans HB7.out hb.size) (fun v' w' hrow' hgr hat => ?_)
        have hbel : Below (gw + 1) xw w' := (Below.refl _ _).grown hgr (Nat.le_trans HSZ.out hb.size) (fun g hq => Nat.le_trans HHB.out (hrow.lt g hq).1)
        exact hK.out _ _ hbel ⟨⟨fun _ => hb.trans hbel, fun h7 => (by rw [moreT_atW] at h7; cases h7)⟩, fun _ => ⟨by rw [moreT_neW (show (6 : Nat) ≠ 7 by omega)]; exact L89, fun _ => hrow'⟩⟩
      · refine Inv.dutyW_plain rfl rfl (fun L vs a xw l0 hU dep up val ev out K hK => ?_)
        have L83 : L 0 = true := dep 0 (by kernel_rfl)
        have e83 : a.eval (.tmp 83) = .pointer (some ⟨m, 0, none⟩) := (ev 0 83 L83 (by kernel_rfl)).trans ((val 0 L83).2 L83)
        refine Inv.wp_value (v := .pointer (some ⟨m, 0, none⟩)) ?_ (hK.out _ _ rfl ⟨(CpgH.more (i := 8) (by omega) (by omega) hU.1), fun _ => rfl⟩)
        clear hU hK K dep up val ev out l0
        generalize a.eval = ρ at *
        (simp [execOp, go_sem, *]; done)
      · refine Inv.dutyW_plain rfl rfl (fun L vs a xw l0 hU dep up val ev out K hK => ?_)
        have L91 : L 8 = true := dep 8 (by kernel_rfl)
        have e91 : a.eval (.tmp 91) = .pointer (some ⟨m, 0, none⟩) := (ev 8 91 L91 (by kernel_rfl)).trans ((val 8 L91).2 L91)
        refine Inv.wp_value (v := .pointer (some ⟨m, 0, none⟩)) ?_ (hK.out _ _ rfl ⟨(CpgH.more (i := 9) (by omega) (by omega) hU.1), fun _ => rfl⟩)
        clear hU hK K dep up val ev out l0
        generalize a.eval = ρ at *
        (simp [execOp, go_sem, *]; done)
      · refine Inv.dutyW_plain rfl rfl (fun L vs a xw l0 hU dep up val ev out K hK => ?_)
        have L90 : L 7 = true := dep 7 (by kernel_rfl)
        have e90 := ev 7 90 L90 (by kernel_rfl)
        have f90 := (val 7 L90).2 L90
        have L92 : L 9 = true := dep 9 (by kernel_rfl)
        have e92 : a.eval (.tmp 92) = .pointer (some ⟨m, 0, none⟩) := (ev 9 92 L92 (by kernel_rfl)).trans ((val 9 L92).2 L92)
        have hb := hU.1.1 l0
        obtain ⟨_, hr0⟩ := f90
        have hr := hr0 l0
        have hall : ∀ j, j < 10 → L j = true := by
          intro j hj
          rcases (show j = 0 ∨ j = 1 ∨ j = 2 ∨ j = 3 ∨ j = 4 ∨ j = 5 ∨ j = 6 ∨ j = 7 ∨ j = 8 ∨ j = 9 by omega) with rfl | rfl | rfl | rfl | rfl | rfl | rfl | rfl | rfl | rfl
          · exact dep 0 (by kernel_rfl)
          · exact dep 1 (by kernel_rfl)
          · exact dep 2 (by kernel_rfl)
          · exact dep 3 (by kernel_rfl)
          · exact dep 4 (by kernel_rfl)
          · exact dep 5 (by kernel_rfl)
          · exact dep 6 (by kernel_rfl)
          · exact dep 7 (by kernel_rfl)
          · exact up 9 8 (dep 9 (by kernel_rfl)) (by kernel_rfl)
          · exact dep 9 (by kernel_rfl)
        obtain ⟨Ao, co, hvo, -, -⟩ := hr.shape
        refine wp_storeC (d := none) (off := 0) (p := [.slice Ao ((L0.map ceC) ++ [ceC x]).length co]) (n := 1) szLC rfl (.tmp 92) (.tmp 90) rfl (.slice Ao ((L0.map ceC) ++ [ceC x]).length co) rfl (by intro u hu; rw [List.mem_singleton.1 hu]; rfl) (CBD.out xw hb) rfl (by simp) e92 (e90.trans hvo) ?_
        intro y hc' hg'
        rw [over_all _ _ (by simp)] at hc'
        refine hK.out _ _ trivial ⟨⟨fun hq => (by rw [moreT_atW] at hq; cases hq), fun _ hq => (by rw [moreT_atW] at hq; cases hq)⟩, fun _ => ⟨fun j hj => by rw [moreT_neW (i := 10) (j := j) (by omega)]; exact hall j hj, ⟨xw, hb, hg'⟩, _, hc', ?_⟩⟩
        have hr' := hr.row hg' (hr.ne_cells (CBD.out xw hb) (by decide))
        rw [hvo] at hr'
        exact hr'
      · intro vs L w' hL hf
        obtain ⟨-, h10⟩ := hf 10 (by omega)
        obtain ⟨-, ⟨yw, hb, hg⟩, v9, hc9, hr9⟩ := h10 (hL 10 (by omega))
        simp only [Inv.putAll, Act.put, List.setIfInBounds_toArray, List.set_cons_zero, List.set_cons_succ, Nat.zero_add, Nat.reduceAdd]
        have hins : (L0.map ceC) ++ [ceC x] = (insK L0 x nL).map ceC := by rw [← HNL.out, insK_end, List.map_append]; rfl
        have hlen : (insK L0 x nL).length = nL + 1 := by rw [insK_len (Nat.le_of_eq HNL.out.symm), HNL.out]
        rw [hins] at hr9
        obtain ⟨gE, c9, cs9, hv9, hbE, -, -, -, hneE, -⟩ := lc_open3 hc9 hr9 (by rw [hlen]; omega)
        subst hv9
        rw [hlen] at hc9 hr9
        have HGE := Lib.hid (show w.heap.size ≤ gE from Nat.le_trans G2.out.size hbE)
        have HNE := Lib.hid hneE
        have GN := Lib.hid (grown_trans' (below_nw (grown_drew GS.out) hb (by rw [HGW.out]; exact Nat.le_succ _)) hg)
        have C9 := Lib.hid hc9
        have R9 := Lib.hid hr9
        have q9 := hc9.at_ (i := 0) (v := .slice (some ⟨gE, 0, none⟩) (nL + 1) c9) rfl
        have hw9 : IntKind.i64.wrap (((nL + 1 : Nat) : Int) - 1) = (nL : Int) := by rw [IntKind.wrap_i64]; have := HNL8.out; omega
        clear hf h10 hb hg hc9 hr9 hL hins hlen hbE hneE
        go_wp2
        clear q9 hw9
        go_loopw [10] (fun v wr => ∃ k : Nat, k ≤ nL ∧ v = .int .i64 k ∧ CB wr m 30 [.slice (some ⟨gE, 0, none⟩) (nL + 1) c9] ∧ RowX wr w2.heap.size 38 23 (.slice (some ⟨gE, 0, none⟩) (nL + 1) c9) ((insK L0 x k).map ceC) ∧ w.grownBy wr (some m) ∧ (∀ y, L0[k]? = some y → nmC x < nmC y)) (fun v _ => (intOf v).toNat)
        case atStart => exact ⟨nL, Nat.le_refl _, by first | rfl | go_num, C9.out, R9.out, GN.out, fun y hy => by rw [List.getElem?_eq_none (Nat.le_of_eq HNL.out)] at hy; cases hy⟩
        case round =>
          rename World => wi
          obtain ⟨k, hk, rfl, hcI, hrI, hgI, hup⟩ := hrel
          have CI := Lib.hid hcI
          have RI9 := Lib.hid hrI
          have GI := Lib.hid hgI
          have HUP := Lib.hid hup
          have HK := Lib.hid hk
          have HLI := Lib.hid (show (insK L0 x k).length = nL + 1 by rw [insK_len (by rw [HNL.out]; exact hk), HNL.out])
          have HOKI := Lib.hid (show ∀ y ∈ insK L0 x k, cdOk y.1 from fun y hy => by
            rcases List.mem_append.1 hy with hy | hy
            · exact HOKL.out y (List.mem_of_mem_take hy)
            · rcases List.mem_cons.1 hy with rfl | hy
              · exact HXO.out
              · exact HOKL.out y (List.mem_of_mem_drop hy))
          clear hcI hrI hgI hup
          cases k with
          | zero =>
            have HIN := Lib.hid (insR_of (x := x) (k := 0) HSO.out (Nat.zero_le _) HUP.out (fun y h0 => by omega))
            go_wp2
            go_quiet (fail)
            go_wp2
            go_ret
            exact ⟨insK L0 x 0, 0, .inr (.inr ⟨HR.out, Int.not_lt.2 HO.out, .inr (.inr ⟨HAN.out, H8'.out, by rw [HL.out]; exact HIN.out, rfl⟩)⟩), rfl, ⟨HBM.out, ⟨_, (show CB (World.drewN wi nq) m _ _ from CI.out), (RI9.out.none (grown_drewC wi nq none)).base_ HB2.out⟩, HOKI.out, by rw [HLI.out]; have := H8.out; omega⟩, grown_trans' GI.out (grown_drewC wi nq _)⟩
          | succ j =>
            have hj := HK.out
            obtain ⟨y, hy⟩ : ∃ y, L0[j]? = some y := ⟨_, List.getElem?_eq_getElem (by rw [HNL.out]; omega)⟩
            have HY := Lib.hid hy
            have HLY := Lib.hid (ceC_length (HOKL.out y (List.mem_of_getElem? hy)))
            obtain ⟨gE', cap', cs, hv', -, hcE, hnc, hcl, -, hcells⟩ := lc_open3 CI.out RI9.out (by rw [HLI.out]; omega)
            rw [HLI.out] at hv' hnc
            have hh := Value.slice.inj hv'
            obtain ⟨rfl⟩ : gE = gE' := by have := hh.1; injection this with this; injection this
            obtain ⟨rfl⟩ : c9 = cap' := hh.2.2
            have hx0 := hcells (j + 1) x (insK_at (by rw [HNL.out]; exact hj))
            have hy0 := hcells j y (insK_low hy)
            have q0 := CI.out.at_ (i := 0) (v := .slice (some ⟨gE, 0, none⟩) (nL + 1) c9) rfl
            have q1 := hx0 2 _ (cdC_sv x.1 x.2.1 x.2.2)
            have q2 := hy0 2 _ (cdC_sv y.1 y.2.1 y.2.2)
            have FX := Lib.hid hx0
            have FY := Lib.hid hy0
            have E5 := Lib.hid hcE
            have HCL := Lib.hid hcl
            have HNC := Lib.hid hnc
            have hjp : (0 : Int) < ((j + 1 : Nat) : Int) := by omega
            have HJN := Lib.hid (show (j : Int) < ((nL + 1 : Nat) : Int) by omega)
            have HJN2 := Lib.hid (show ((j + 1 : Nat) : Int) < ((nL + 1 : Nat) : Int) by omega)
            have HWJ := Lib.hid (show IntKind.i64.wrap (((j + 1 : Nat) : Int) - 1) = (j : Int) by rw [IntKind.wrap_i64]; have := HNL8.out; omega)
            have HWK2 := Lib.hid (show IntKind.i64.wrap (j : Int) = (j : Int) by rw [IntKind.wrap_i64]; have := HNL8.out; omega)
            have hn1 := HJN.out
            have hn2 := HJN2.out
            have hwj := HWJ.out
            clear hcells hx0 hy0 hcE hcl hnc hv' hh hy
            by_cases hlt : nmC x < nmC y
            · have dl : Op.bytesLess x.1.sv y.1.sv = true := by rw [bytesLess_eq]; exact decide_eq_true hlt
              have HLT := Lib.hid hlt
              clear hlt
              go_wp2
              go_quiet (fail)
              have CZ := Lib.hid (show CB (World.drewN wi nq) m 30 [.slice (some ⟨gE, 0, none⟩) (nL + 1) c9] from CI.out)
              have RZ := Lib.hid (RI9.out.none (grown_drewC wi nq none))
              have EZ := Lib.hid (show CB (World.drewN wi nq) gE 38 cs from E5.out)
              have FXZ := Lib.hid (show ∀ q u, (ceC x)[q]? = some u → (World.drewN wi nq).cell? ⟨gE, (j + 1) * 23 + q, none⟩ = some u from FX.out)
              have FYZ := Lib.hid (show ∀ q u, (ceC y)[q]? = some u → (World.drewN wi nq).cell? ⟨gE, j * 23 + q, none⟩ = some u from FY.out)
              have GWZ := Lib.hid (grown_trans' GI.out (grown_drewC wi nq (some m)))
              clear q0 q1 q2 dl CI RI9 E5 FX FY GI
              generalize World.drewN wi nq = wz at *
              have q0 := CZ.out.at_ (i := 0) (v := .slice (some ⟨gE, 0, none⟩) (nL + 1) c9) rfl
              have HZE := Lib.hid (show gE < wz.heap.size from EZ.out.lt)
              have TT0 := Lib.hid True.intro
              go_wp2_with (first
                | (have hx := TT0; clear hx TT0; refine wpList_loadX (p := ceC x) aggC rfl (.tmp 130) rfl (b := gE) (off := (j + 1) * 23) FXZ.out HLX.out (by first | rfl | go_simp) ?_; have TT1 := Lib.hid True.intro)
                | (have hx := TT1; clear hx TT1; refine wpList_allocC zeroC_run rfl rfl ?_; have TT2 := Lib.hid True.intro)
                | (have hx := TT2; clear hx TT2; refine wpList_storeC (off := 0) (p := ceC x) aggC.hi rfl (.tmp 11) (.tmp 131) rfl (.agg (ceC x).toArray) rfl (ceC_one x) (CB.new wz 38 (ceC zeroCe)) HLX.out (by rw [zeroCe_length]; omega) (by first | rfl | go_simp) (by first | rfl | go_simp) ?_; intro wy hY gY; rw [over_all _ _ (Nat.le_of_eq (by rw [zeroCe_length, HLX.out]))] at hY; have gs := none_new (grown_alloc wz (.cells (ceC zeroCe).toArray 38) none) gY (Nat.le_refl _); have Y5 := Lib.hid hY; have C5 := Lib.hid (CZ.out.kept gs); have R5 := Lib.hid (RZ.out.none gs); have E5 := Lib.hid (EZ.out.kept gs); have GW5 := Lib.hid (grown_trans' GWZ.out (grown_some gs m)); have FY5 := Lib.hid (show ∀ q u, (ceC y)[q]? = some u → wy.cell? ⟨gE, j * 23 + q, none⟩ = some u from fun q u hq => ((below_of_none gs).cell (p := ⟨gE, _, none⟩) HZE.out).trans (FYZ.out q u hq)); clear hY gY gs q0))
              obtain ⟨gy, hgy⟩ : ∃ g, wz.heap.size = g := ⟨_, rfl⟩
              have HGY := Lib.hid (show gy ≠ gE by rw [← hgy]; exact Nat.ne_of_gt HZE.out)
              have Y6' := Lib.hid Y5.out
              rw [hgy] at Y6' ⊢
              clear hgy Y5
              have FIXJ := Lib.hid (show ∀ xw, wy.grownBy xw none → ∀ q u, (ceC y)[q]? = some u → xw.cell? ⟨gE, j * 23 + q, none⟩ = some u from fun xw hx q u hq => ((below_of_none hx).cell (p := ⟨gE, _, none⟩) E5.out.lt).trans (FY5.out q u hq))
              clear hwj
              refine region_last 14 [some 132, some 133, some 134, some 135, some 136, some 137, some 138, some 139, some 140, some 141, some 142, some 143, some 144, some 145, none] (fun xw => World.grownBy wy xw none) (CphF y m gE nL c9 j) (fun _ xw => CB xw gE 38 (over cs ((j + 1) * 23) (ceC y)) ∧ wy.grownBy xw (some gE)) (by kernel_rfl) (by kernel_rfl) rfl (by kernel_rfl) (by kernel_rfl) (fun _ _ hg h => grown_trans' h hg) (fun jj v xa ya hg _ h => CphF.kept jj v xa ya h) (grown_drew (World.grownBy.refl _ _)) ⟨⟨⟨⟨⟨⟨⟨⟨⟨⟨⟨⟨⟨⟨trivial, ?_⟩, ?_⟩, ?_⟩, ?_⟩, ?_⟩, ?_⟩, ?_⟩, ?_⟩, ?_⟩, ?_⟩, ?_⟩, ?_⟩, ?_⟩, ?_⟩ ?_ ?_ ?_
              · refine Inv.duty_plain rfl rfl (fun L vs a xw hG dep up val ev out K hK => ?_)
                have e0 : a.eval (.tmp 0) = .pointer (some ⟨m, 0, none⟩) := (out 0 (by kernel_rfl)).trans rfl
                refine Inv.wp_value (v := .pointer (some ⟨m, 0, none⟩)) ?_ (hK.out _ _ (World.grownBy.refl xw _) rfl)
                clear hK K dep up val ev out
                generalize a.eval = ρ at *
                (simp [execOp, go_sem, *]; done)
              · refine Inv.duty_plain rfl rfl (fun L vs a xw hG dep up val ev out K hK => ?_)
                have L132 := dep 0 (by kernel_rfl)
                have e132 : a.eval (.tmp 132) = .pointer (some ⟨m, 0, none⟩) := (ev 0 132 L132 (by kernel_rfl)).trans (val 0 L132)
                refine Inv.wp_value (v := .pointer (some ⟨m, 0, none⟩)) ?_ (hK.out _ _ (World.grownBy.refl xw _) rfl)
                clear hK K dep up val ev out
                generalize a.eval = ρ at *
                (simp [execOp, go_sem, *]; done)
              · refine Inv.duty_plain rfl rfl (fun L vs a xw hG dep up val ev out K hK => ?_)
                have L133 := dep 1 (by kernel_rfl)
                have e133 : a.eval (.tmp 133) = .pointer (some ⟨m, 0, none⟩) := (ev 1 133 L133 (by kernel_rfl)).trans (val 1 L133)
                refine Inv.wp_value (v := .pointer (some ⟨m, 0, none⟩)) ?_ (hK.out _ _ (World.grownBy.refl xw _) rfl)
                clear hK K dep up val ev out
                generalize a.eval = ρ at *
                (simp [execOp, go_sem, *]; done)
              · refine Inv.duty_plain rfl rfl (fun L vs a xw hG dep up val ev out K hK => ?_)
                have L134 := dep 2 (by kernel_rfl)
                have e134 : a.eval (.tmp 134) = .pointer (some ⟨m, 0, none⟩) := (ev 2 134 L134 (by kernel_rfl)).trans (val 2 L134)
                have q0 : xw.cell? ⟨m, 0, none⟩ = some (.slice (some ⟨gE, 0, none⟩) (nL + 1) c9) := (C5.out.kept hG).at_ rfl
                refine Inv.wp_value (v := .slice (some ⟨gE, 0, none⟩) (nL + 1) c9) ?_ (hK.out _ _ (World.grownBy.refl xw _) rfl)
                clear hK K dep up val ev out
                generalize a.eval = ρ at *
                (simp [execOp, go_sem, *]; done)
              · refine Inv.duty_plain rfl rfl (fun L vs a xw hG dep up val ev out K hK => ?_)
                have e10 : a.eval (.tmp 10) = .int .i64 ((j + 1 : Nat) : Int) := (out 10 (by kernel_rfl)).trans rfl
                refine Inv.wp_value (v := .int .i64 ((j + 1 : Nat) : Int)) ?_ (hK.out _ _ (World.grownBy.refl xw _) rfl)
                clear hK K dep up val ev out
                generalize a.eval = ρ at *
                (simp [execOp, go_sem, *]; done)
              · refine Inv.duty_plain rfl rfl (fun L vs a xw hG dep up val ev out K hK => ?_)
                have e0 : a.eval (.tmp 0) = .pointer (some ⟨m, 0, none⟩) := (out 0 (by kernel_rfl)).trans rfl
                refine Inv.wp_value (v := .pointer (some ⟨m, 0, none⟩)) ?_ (hK.out _ _ (World.grownBy.refl xw _) rfl)
                clear hK K dep up val ev out
                generalize a.eval = ρ at *
                (simp [execOp, go_sem, *]; done)
              · refine Inv.duty_plain rfl rfl (fun L vs a xw hG dep up val ev out K hK => ?_)
                have L137 := dep 5 (by kernel_rfl)
                have e137 : a.eval (.tmp 137) = .pointer (some ⟨m, 0, none⟩) := (ev 5 137 L137 (by kernel_rfl)).trans (val 5 L137)
                refine Inv.wp_value (v := .pointer (some ⟨m, 0, none⟩)) ?_ (hK.out _ _ (World.grownBy.refl xw _) rfl)
                clear hK K dep up val ev out
                generalize a.eval = ρ at *
                (simp [execOp, go_sem, *]; done)
              · refine Inv.duty_plain rfl rfl (fun L vs a xw hG dep up val ev out K hK => ?_)
                have L138 := dep 6 (by kernel_rfl)
                have e138 : a.eval (.tmp 138) = .pointer (some ⟨m, 0, none⟩) := (ev 6 138 L138 (by kernel_rfl)).trans (val 6 L138)
                refine Inv.wp_value (v := .pointer (some ⟨m, 0, none⟩)) ?_ (hK.out _ _ (World.grownBy.refl xw _) rfl)
                clear hK K dep up val ev out
                generalize a.eval = ρ at *
                (simp [execOp, go_sem, *]; done)
              · refine Inv.duty_plain rfl rfl (fun L vs a xw hG dep up val ev out K hK => ?_)
                have L139 := dep 7 (by kernel_rfl)
                have e139 : a.eval (.tmp 139) = .pointer (some ⟨m, 0, none⟩) := (ev 7 139 L139 (by kernel_rfl)).trans (val 7 L139)
                have q0 : xw.cell? ⟨m, 0, none⟩ = some (.slice (some ⟨gE, 0, none⟩) (nL + 1) c9) := (C5.out.kept hG).at_ rfl
                refine Inv.wp_value (v := .slice (some ⟨gE, 0, none⟩) (nL + 1) c9) ?_ (hK.out _ _ (World.grownBy.refl xw _) rfl)
                clear hK K dep up val ev out
                generalize a.eval = ρ at *
                (simp [execOp, go_sem, *]; done)
              · refine Inv.duty_plain rfl rfl (fun L vs a xw hG dep up val ev out K hK => ?_)
                have e10 : a.eval (.tmp 10) = .int .i64 ((j + 1 : Nat) : Int) := (out 10 (by kernel_rfl)).trans rfl
                refine Inv.wp_value (v := .int .i64 ((j + 1 : Nat) : Int)) ?_ (hK.out _ _ (World.grownBy.refl xw _) rfl)
                clear hK K dep up val ev out
                generalize a.eval = ρ at *
                (simp [execOp, go_sem, *]; done)
              · refine Inv.duty_plain rfl rfl (fun L vs a xw hG dep up val ev out K hK => ?_)
                have ek : ∀ u, a.eval (.const u) = u := fun _ => rfl
                have L141 := dep 9 (by kernel_rfl)
                have e141 : a.eval (.tmp 141) = .int .i64 ((j + 1 : Nat) : Int) := (ev 9 141 L141 (by kernel_rfl)).trans (val 9 L141)
                have hw := HWJ.out
                have hw2 := HWK2.out
                refine Inv.wp_value (v := .int .i64 j) ?_ (hK.out _ _ (World.grownBy.refl xw _) rfl)
                clear hK K dep up val ev out
                generalize a.eval = ρ at *
                (simp [execOp, go_sem, *]; done)
              · refine Inv.duty_plain rfl rfl (fun L vs a xw hG dep up val ev out K hK => ?_)
                have L140 := dep 8 (by kernel_rfl)
                have e140 : a.eval (.tmp 140) = .slice (some ⟨gE, 0, none⟩) (nL + 1) c9 := (ev 8 140 L140 (by kernel_rfl)).trans (val 8 L140)
                have L142 := dep 10 (by kernel_rfl)
                have e142 : a.eval (.tmp 142) = .int .i64 j := (ev 10 142 L142 (by kernel_rfl)).trans (val 10 L142)
                have h1 := HJN.out
                have h2 := HNL8.out
                have h3 := HJN2.out
                refine Inv.wp_value (v := .pointer (some ⟨gE, j * 23, none⟩)) ?_ (hK.out _ _ (World.grownBy.refl xw _) rfl)
                clear hK K dep up val ev out
                generalize a.eval = ρ at *
                (simp [execOp, go_sem, *]; first | done | (intro h; exfalso; omega))
              · refine Inv.duty_plain rfl rfl (fun L vs a xw hG dep up val ev out K hK => ?_)
                have L143 := dep 11 (by kernel_rfl)
                have e143 : a.eval (.tmp 143) = .pointer (some ⟨gE, j * 23, none⟩) := (ev 11 143 L143 (by kernel_rfl)).trans (val 11 L143)
                exact wp_loadXc aggC (.tmp 143) rfl (b := gE) (off := j * 23) (FIXJ.out _ hG) HLY.out e143 (hK.out _ _ (World.grownBy.refl xw _) rfl)
              · refine Inv.duty_plain rfl rfl (fun L vs a xw hG dep up val ev out K hK => ?_)
                have L135 := dep 3 (by kernel_rfl)
                have e135 : a.eval (.tmp 135) = .slice (some ⟨gE, 0, none⟩) (nL + 1) c9 := (ev 3 135 L135 (by kernel_rfl)).trans (val 3 L135)
                have L136 := dep 4 (by kernel_rfl)
                have e136 : a.eval (.tmp 136) = .int .i64 ((j + 1 : Nat) : Int) := (ev 4 136 L136 (by kernel_rfl)).trans (val 4 L136)
                have h1 := HJN.out
                have h2 := HNL8.out
                have h3 := HJN2.out
                refine Inv.wp_value (v := .pointer (some ⟨gE, (j + 1) * 23, none⟩)) ?_ (hK.out _ _ (World.grownBy.refl xw _) rfl)
                clear hK K dep up val ev out
                generalize a.eval = ρ at *
                (simp [execOp, go_sem, *]; first | done | (intro h; exfalso; omega))
              · intro o ho
                injection ho with ho
                subst ho
                refine ⟨rfl, fun vs a xw hG hF ev out K hK => ?_⟩
                have e1 : a.eval (.tmp 145) = .pointer (some ⟨gE, (j + 1) * 23, none⟩) := (ev 13 145 (by omega) (by kernel_rfl)).trans (hF 13 (by omega))
                have e2 : a.eval (.tmp 144) = .agg (ceC y).toArray := (ev 12 144 (by omega) (by kernel_rfl)).trans (hF 12 (by omega))
                refine wp_storeC (d := none) (off := (j + 1) * 23) (p := ceC y) (n := 23) (by kernel_rfl) rfl (.tmp 145) (.tmp 144) rfl (.agg (ceC y).toArray) rfl (ceC_one _) (E5.out.kept hG) HLY.out (by have h1 := HCL.out; have h2 := HNC.out; rw [h1]; omega) e1 e2 ?_
                intro w' hc' hg'
                exact hK.out _ _ ⟨hc', grown_trans' (grown_some hG gE) hg'⟩
              · intro vs vs' xw _ h
                exact h
              · rintro vs w' ⟨hc, hg⟩
                simp only [Inv.putAll, Act.put, List.setIfInBounds_toArray, List.set_cons_zero, List.set_cons_succ, Nat.zero_add, Nat.reduceAdd]
                have C6 := Lib.hid (C5.out.grown hg (Ne.symm HNE.out))
                have Y6 := Lib.hid (Y6'.out.grown hg HGY.out)
                have E6 := Lib.hid hc
                have R6 := Lib.hid (row_set HLI.out E5.out R5.out (by omega) (HOKL.out y (List.mem_of_getElem? HY.out)) hc)
                have GW6 := Lib.hid (grown_nwC GW5.out hg HGE.out)
                have HL6 := Lib.hid (show (over cs ((j + 1) * 23) (ceC y)).length = c9 * 23 by rw [over_length _ _ _ (by rw [HLY.out, HCL.out]; have := HNC.out; omega)]; exact HCL.out)
                clear hc hg
                rename World => w6
                go_wp2
                refine region_last 8 [some 146, some 147, some 148, some 149, some 150, some 151, some 152, some 153, none] (fun xw => World.grownBy w6 xw none) (CpiF x m gE nL c9 j) (fun _ xw => CB xw gE 38 (over (over cs ((j + 1) * 23) (ceC y)) (j * 23) (ceC x)) ∧ w6.grownBy xw (some gE)) (by kernel_rfl) (by kernel_rfl) rfl (by kernel_rfl) (by kernel_rfl) (fun _ _ hg h => grown_trans' h hg) (fun jj v xa ya hg _ h => CpiF.kept jj v xa ya h) (grown_drew (World.grownBy.refl _ _)) ⟨⟨⟨⟨⟨⟨⟨⟨trivial, ?_⟩, ?_⟩, ?_⟩, ?_⟩, ?_⟩, ?_⟩, ?_⟩, ?_⟩ ?_ ?_ ?_
                · refine Inv.duty_plain rfl rfl (fun L vs a xw hG dep up val ev out K hK => ?_)
                  have e0 : a.eval (.tmp 0) = .pointer (some ⟨m, 0, none⟩) := (out 0 (by kernel_rfl)).trans rfl
                  refine Inv.wp_value (v := .pointer (some ⟨m, 0, none⟩)) ?_ (hK.out _ _ (World.grownBy.refl xw _) rfl)
                  clear hK K dep up val ev out
                  generalize a.eval = ρ at *
                  (simp [execOp, go_sem, *]; done)
                · refine Inv.duty_plain rfl rfl (fun L vs a xw hG dep up val ev out K hK => ?_)
                  have L146 := dep 0 (by kernel_rfl)
                  have e146 : a.eval (.tmp 146) = .pointer (some ⟨m, 0, none⟩) := (ev 0 146 L146 (by kernel_rfl)).trans (val 0 L146)
                  refine Inv.wp_value (v := .pointer (some ⟨m, 0, none⟩)) ?_ (hK.out _ _ (World.grownBy.refl xw _) rfl)
                  clear hK K dep up val ev out
                  generalize a.eval = ρ at *
                  (simp [execOp, go_sem, *]; done)
                · refine Inv.duty_plain rfl rfl (fun L vs a xw hG dep up val ev out K hK => ?_)
                  have L147 := dep 1 (by kernel_rfl)
                  have e147 : a.eval (.tmp 147) = .pointer (some ⟨m, 0, none⟩) := (ev 1 147 L147 (by kernel_rfl)).trans (val 1 L147)
                  refine Inv.wp_value (v := .pointer (some ⟨m, 0, none⟩)) ?_ (hK.out _ _ (World.grownBy.refl xw _) rfl)
                  clear hK K dep up val ev out
                  generalize a.eval = ρ at *
                  (simp [execOp, go_sem, *]; done)
                · refine Inv.duty_plain rfl rfl (fun L vs a xw hG dep up val ev out K hK => ?_)
                  have L148 := dep 2 (by kernel_rfl)
                  have e148 : a.eval (.tmp 148) = .pointer (some ⟨m, 0, none⟩) := (ev 2 148 L148 (by kernel_rfl)).trans (val 2 L148)
                  have q0 : xw.cell? ⟨m, 0, none⟩ = some (.slice (some ⟨gE, 0, none⟩) (nL + 1) c9) := (C6.out.kept hG).at_ rfl
                  refine Inv.wp_value (v := .slice (some ⟨gE, 0, none⟩) (nL + 1) c9) ?_ (hK.out _ _ (World.grownBy.refl xw _) rfl)
                  clear hK K dep up val ev out
                  generalize a.eval = ρ at *
                  (simp [execOp, go_sem, *]; done)
                · refine Inv.duty_plain rfl rfl (fun L vs a xw hG dep up val ev out K hK => ?_)
                  have e10 : a.eval (.tmp 10) = .int .i64 ((j + 1 : Nat) : Int) := (out 10 (by kernel_rfl)).trans rfl
                  refine Inv.wp_value (v := .int .i64 ((j + 1 : Nat) : Int)) ?_ (hK.out _ _ (World.grownBy.refl xw _) rfl)
                  clear hK K dep up val ev out
                  generalize a.eval = ρ at *
                  (simp [execOp, go_sem, *]; done)
                · refine Inv.duty_plain rfl rfl (fun L vs a xw hG dep up val ev out K hK => ?_)
                  have ek : ∀ u, a.eval (.const u) = u := fun _ => rfl
                  have L150 := dep 4 (by kernel_rfl)
                  have e150 : a.eval (.tmp 150) = .int .i64 ((j + 1 : Nat) : Int) := (ev 4 150 L150 (by kernel_rfl)).trans (val 4 L150)
                  have hw := HWJ.out
                  have hw2 := HWK2.out
                  refine Inv.wp_value (v := .int .i64 j) ?_ (hK.out _ _ (World.grownBy.refl xw _) rfl)
                  clear hK K dep up val ev out
                  generalize a.eval = ρ at *
                  (simp [execOp, go_sem, *]; done)
                · refine Inv.duty_plain rfl rfl (fun L vs a xw hG dep up val ev out K hK => ?_)
                  have e11 : a.eval (.tmp 11) = .pointer (some ⟨gy, 0, none⟩) := (out 11 (by kernel_rfl)).trans rfl
                  exact wp_loadC aggC (.tmp 11) rfl (Y6.out.kept hG) (take_all HLX.out) (by rw [HLX.out]; omega) e11 (hK.out _ _ (World.grownBy.refl xw _) rfl)
                · refine Inv.duty_plain rfl rfl (fun L vs a xw hG dep up val ev out K hK => ?_)
                  have L149 := dep 3 (by kernel_rfl)
                  have e149 : a.eval (.tmp 149) = .slice (some ⟨gE, 0, none⟩) (nL + 1) c9 := (ev 3 149 L149 (by kernel_rfl)).trans (val 3 L149)
                  have L151 := dep 5 (by kernel_rfl)
                  have e151 : a.eval (.tmp 151) = .int .i64 j := (ev 5 151 L151 (by kernel_rfl)).trans (val 5 L151)
                  have h1 := HJN.out
                  have h2 := HNL8.out
                  have h3 := HJN2.out
                  refine Inv.wp_value (v := .pointer (some ⟨gE, j * 23, none⟩)) ?_ (hK.out _ _ (World.grownBy.refl xw _) rfl)
                  clear hK K dep up val ev out
                  generalize a.eval = ρ at *
                  (simp [execOp, go_sem, *]; first | done | (intro h; exfalso; omega))
                · intro o ho
                  injection ho with ho
                  subst ho
                  refine ⟨rfl, fun vs a xw hG hF ev out K hK => ?_⟩
                  have e1 : a.eval (.tmp 153) = .pointer (some ⟨gE, j * 23, none⟩) := (ev 7 153 (by omega) (by kernel_rfl)).trans (hF 7 (by omega))
                  have e2 : a.eval (.tmp 152) = .agg (ceC x).toArray := (ev 6 152 (by omega) (by kernel_rfl)).trans (hF 6 (by omega))
                  refine wp_storeC (d := none) (off := j * 23) (p := ceC x) (n := 23) (by kernel_rfl) rfl (.tmp 153) (.tmp 152) rfl (.agg (ceC x).toArray) rfl (ceC_one _) (E6.out.kept hG) HLX.out (by have h1 := HL6.out; have h2 := HNC.out; rw [h1]; omega) e1 e2 ?_
                  intro w' hc' hg'
                  exact hK.out _ _ ⟨hc', grown_trans' (grown_some hG gE) hg'⟩
                · intro vs vs' xw _ h
                  exact h
                · rintro vs w' ⟨hc, hg⟩
                  simp only [Inv.putAll, Act.put, List.setIfInBounds_toArray, List.set_cons_zero, List.set_cons_succ, Nat.zero_add, Nat.reduceAdd]
                  have C7 := Lib.hid (C6.out.grown hg (Ne.symm HNE.out))
                  have R7 := Lib.hid (row_set (by rw [List.length_set]; exact HLI.out) E6.out R6.out (by omega) HXO.out hc)
                  have GW7 := Lib.hid (grown_nwC GW6.out hg HGE.out)
                  rw [insK_swap HY.out] at R7
                  have hwk := HWJ.out
                  clear hc hg
                  go_wp2
                  go_roundw
                  case rel => exact ⟨j, by omega, by first | rfl | go_num, C7.out, R7.out, GW7.out, fun z hz => by have := HY.out.symm.trans hz; injection this with this; rw [← this]; exact HLT.out⟩
                  case measure => simp [intOf]
            · have dl : Op.bytesLess x.1.sv y.1.sv = false := by rw [bytesLess_eq]; exact decide_eq_false hlt
              have HIN := Lib.hid (insR_of (x := x) (k := j + 1) HSO.out (by rw [HNL.out]; exact hj) HUP.out (fun z _ hz => by have := HY.out.symm.trans hz; injection this with this; rw [← this]; exact hlt))
              clear hlt
              go_wp2
              go_quiet (fail)
              go_wp2
              go_ret
              exact ⟨insK L0 x (j + 1), 0, .inr (.inr ⟨HR.out, Int.not_lt.2 HO.out, .inr (.inr ⟨HAN.out, H8'.out, by rw [HL.out]; exact HIN.out, rfl⟩)⟩), rfl, ⟨HBM.out, ⟨_, (show CB (World.drewN wi nq) m _ _ from CI.out), (RI9.out.none (grown_drewC wi nq none)).base_ HB2.out⟩, HOKI.out, by rw [HLI.out]; have := H8.out; omega⟩, grown_trans' GI.out (grown_drewC wi nq _)⟩
end Go.Proofs.YtfpcabfpnekejaaDoor
