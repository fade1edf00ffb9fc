/- The walk of the document's Put (cache): what isn't taken, or has ended. -/
import Derived.Test.YtfpcabfpnekejaaDoorCpe
import Derived.Test.YtfpcabfpnekejaaDoorCpr
namespace Go.Proofs.YtfpcabfpnekejaaDoor
open Go.RowKit Go.Maps

/-- What the document's Put answers. -/
def PutLC (w : World) (B m : Nat) (E : List Ce) (x : Ce) (now : Int) (e : Ending) (w' : World) : Prop := ∃ out k, PutD E x now out k ∧ e = .returned (.int .i64 k) ∧ LC w' B m out ∧ WrC m w w'
theorem cdC_gC (x : Ce) : grC x.1 = gcells ⟨x.1.sv.toArray⟩ x.1.ky (x.1.no : Int) x.1.st x.1.en x.1.fl := rfl
set_option maxRecDepth 10000 in
set_option maxHeartbeats 2000000 in
theorem crefPut_a (w : World) (B m : Nat) (E : List Ce) (h : LC w B m E) (x : Ce) (hx : cdOk x.1) (now : Int) (hp : parses x.1.cl = false) :
    Calls Tryd.prog 10 #[.pointer (some ⟨m, 0, none⟩), .agg (ceC x).toArray, .int .i64 now] w fun e w' => PutLC w B m E x now e w' := by
  have B0 := Lib.hid (CB.new w 38 (ceC x))
  have G0 := Lib.hid (grown_alloc w (.cells (ceC x).toArray 38) none)
  have q1 := B0.out.at_ (cdC_cl x.1 x.2.1 x.2.2)
  have HLX := Lib.hid (ceC_length hx)
  have HGL := Lib.hid (show (grC x.1).length = 21 by rw [grC, gcells_length _ _ _ _ _ _ hx.w.lk])
  have HGR := Lib.hid (cdC_gr hx.w.lk x.2.1 x.2.2)
  have HEN := Lib.hid (cdC_en hx.w.lk x.2.1 x.2.2)
  have HKY := Lib.hid hx.w.lk
  have HLC := Lib.hid hx.lc
  have HLS := Lib.hid hx.ls
  have S00 := Lib.hid (h.none G0.out)
  have HP := Lib.hid hp
  have HR := Lib.hid (show rightC x.1 = false by unfold rightC; rw [hp]; rfl)
  clear h hp hx
  go_enter Tryd.func10, Tryd.ntmps10
  go_wp2_with (go_at_call 21; refine (refNamedB_any ⟨x.1.cl.toArray⟩ x.1.cl rfl _ (Nat.le_trans HLC.out (by omega))).mono ?_; rintro r w1 ⟨rfl, g1⟩; rw [HP.out]; have G1 := Lib.hid (grown_trans' G0.out g1); have B1 := Lib.hid (B0.out.kept g1); have S1 := Lib.hid (S00.out.none g1); clear g1 q1)
  go_ret
  exact ⟨E, 1, .inl ⟨HR.out, rfl, rfl⟩, rfl, S1.out, grown_some G1.out m⟩
set_option maxRecDepth 10000 in
set_option maxHeartbeats 2000000 in
theorem crefPut_b (w : World) (B m : Nat) (E : List Ce) (h : LC w B m E) (x : Ce) (hx : cdOk x.1) (now : Int) (hp : parses x.1.cl = true) (hg : gOk x.1.sv x.1.st x.1.en x.1.fl = false) :
    Calls Tryd.prog 10 #[.pointer (some ⟨m, 0, none⟩), .agg (ceC x).toArray, .int .i64 now] w fun e w' => PutLC w B m E x now e w' := by
  have B0 := Lib.hid (CB.new w 38 (ceC x))
  have G0 := Lib.hid (grown_alloc w (.cells (ceC x).toArray 38) none)
  have q1 := B0.out.at_ (cdC_cl x.1 x.2.1 x.2.2)
  have HLX := Lib.hid (ceC_length hx)
  have HGL := Lib.hid (show (grC x.1).length = 21 by rw [grC, gcells_length _ _ _ _ _ _ hx.w.lk])
  have HGR := Lib.hid (cdC_gr hx.w.lk x.2.1 x.2.2)
  have HEN := Lib.hid (cdC_en hx.w.lk x.2.1 x.2.2)
  have HKY := Lib.hid hx.w.lk
  have HLC := Lib.hid hx.lc
  have HLS := Lib.hid hx.ls
  have S00 := Lib.hid (h.none G0.out)
  have HP := Lib.hid hp
  have HGO := Lib.hid hg
  have HR := Lib.hid (show rightC x.1 = false by unfold rightC; rw [hp, hg]; rfl)
  clear h hp hx hg
  go_enter Tryd.func10, Tryd.ntmps10
  go_wp2_with (first
    | (go_at_call 21; refine (refNamedB_any ⟨x.1.cl.toArray⟩ x.1.cl rfl _ (Nat.le_trans HLC.out (by omega))).mono ?_; rintro r w1 ⟨rfl, g1⟩; rw [HP.out]; have G1 := Lib.hid (grown_trans' G0.out g1); have B1 := Lib.hid (B0.out.kept g1); have S1 := Lib.hid (S00.out.none g1); clear g1 q1)
    | refine wpList_loadCg (off := 2) (p := grC x.1) aggGc (by first | rfl | go_simp) (.tmp 17) rfl B1.out HGR.out (by rw [HLX.out]; omega) (by first | rfl | go_simp) ?_
    | (go_at_call 22; refine (refRightG_any ⟨x.1.sv.toArray⟩ x.1.sv x.1.ky (x.1.no : Int) x.1.st x.1.en x.1.fl _ rfl HKY.out (Nat.le_trans HLS.out (by omega))).mono ?_; rintro r w2 ⟨rfl, g2⟩; rw [HGO.out]; have G2 := Lib.hid (grown_trans' G1.out g2); have B2 := Lib.hid (B1.out.kept g2); have S2 := Lib.hid (S1.out.none g2); have q2 := B2.out.at_ HEN.out; clear g2))
  go_ret
  exact ⟨E, 1, .inl ⟨HR.out, rfl, rfl⟩, rfl, S2.out, grown_some G2.out m⟩
set_option maxRecDepth 10000 in
set_option maxHeartbeats 2000000 in
theorem crefPut_c (w : World) (B m : Nat) (E : List Ce) (h : LC w B m E) (x : Ce) (hx : cdOk x.1) (now : Int) (hp : parses x.1.cl = true) (hg : gOk x.1.sv x.1.st x.1.en x.1.fl = true) (ho : x.1.en < now) :
    Calls Tryd.prog 10 #[.pointer (some ⟨m, 0, none⟩), .agg (ceC x).toArray, .int .i64 now] w fun e w' => PutLC w B m E x now e w' := by
  have B0 := Lib.hid (CB.new w 38 (ceC x))
  have G0 := Lib.hid (grown_alloc w (.cells (ceC x).toArray 38) none)
  have q1 := B0.out.at_ (cdC_cl x.1 x.2.1 x.2.2)
  have HLX := Lib.hid (ceC_length hx)
  have HGL := Lib.hid (show (grC x.1).length = 21 by rw [grC, gcells_length _ _ _ _ _ _ hx.w.lk])
  have HGR := Lib.hid (cdC_gr hx.w.lk x.2.1 x.2.2)
  have HEN := Lib.hid (cdC_en hx.w.lk x.2.1 x.2.2)
  have HKY := Lib.hid hx.w.lk
  have HLC := Lib.hid hx.lc
  have HLS := Lib.hid hx.ls
  have S00 := Lib.hid (h.none G0.out)
  have HP := Lib.hid hp
  have HGO := Lib.hid hg
  have HR := Lib.hid (show rightC x.1 = true by unfold rightC; rw [hp, hg]; rfl)
  have HO := Lib.hid ho
  have d1 : decide (x.1.en < now) = true := decide_eq_true ho
  clear h hp hx hg
  go_enter Tryd.func10, Tryd.ntmps10
  go_wp2_with (first
    | (go_at_call 21; refine (refNamedB_any ⟨x.1.cl.toArray⟩ x.1.cl rfl _ (Nat.le_trans HLC.out (by omega))).mono ?_; rintro r w1 ⟨rfl, g1⟩; rw [HP.out]; have G1 := Lib.hid (grown_trans' G0.out g1); have B1 := Lib.hid (B0.out.kept g1); have S1 := Lib.hid (S00.out.none g1); clear g1 q1)
    | refine wpList_loadCg (off := 2) (p := grC x.1) aggGc (by first | rfl | go_simp) (.tmp 17) rfl B1.out HGR.out (by rw [HLX.out]; omega) (by first | rfl | go_simp) ?_
    | (go_at_call 22; refine (refRightG_any ⟨x.1.sv.toArray⟩ x.1.sv x.1.ky (x.1.no : Int) x.1.st x.1.en x.1.fl _ rfl HKY.out (Nat.le_trans HLS.out (by omega))).mono ?_; rintro r w2 ⟨rfl, g2⟩; rw [HGO.out]; have G2 := Lib.hid (grown_trans' G1.out g2); have B2 := Lib.hid (B1.out.kept g2); have S2 := Lib.hid (S1.out.none g2); have q2 := B2.out.at_ HEN.out; clear g2))
  go_ret
  exact ⟨E, 63, .inr (.inl ⟨HR.out, HO.out, rfl, rfl⟩), rfl, S2.out, grown_some G2.out m⟩
end Go.Proofs.YtfpcabfpnekejaaDoor
namespace Go.Proofs.YtfpcabfpnekejaaDoor
open Go.RowKit Go.Maps

theorem lc_open3 {w : World} {B m : Nat} {E : List Ce} {v : Value} (hcb0 : CB w m 30 [v]) (hrow0 : RowX w B 38 23 v (E.map ceC)) (hp : 0 < E.length) : ∃ gE cap cs, v = .slice (some ⟨gE, 0, none⟩) E.length cap ∧ B ≤ gE ∧ CB w gE 38 cs ∧ E.length ≤ cap ∧ cs.length = cap * 23 ∧ gE ≠ m ∧
    ∀ i y, E[i]? = some y → ∀ j u, (ceC y)[j]? = some u → w.cell? ⟨gE, i * 23 + j, none⟩ = some u := by
  obtain ⟨gE, cap, cs, hv, hBg, hcE, hnc, hcl, -, -⟩ := rowX_open hrow0 (by rw [List.length_map]; exact hp)
  subst hv
  rw [List.length_map] at hcb0 hrow0 hnc
  obtain ⟨A, cap', hv2, hs, -⟩ := hrow0.shape
  injection hv2 with e1 e2 e3
  subst e1 e3
  refine ⟨gE, cap, cs, by rw [List.length_map], hBg, hcE, hnc, hcl, (cb_neC hcE hcb0 (by decide)), fun i y hy j u hu => ?_⟩
  obtain ⟨hi, hye⟩ := List.getElem?_eq_some_iff.1 hy
  obtain ⟨ab, ao, hA, -, hc⟩ := hs.elem (k := i) (by rw [List.length_map]; exact hi)
  injection hA with hA
  injection hA with h1 h2
  subst h1 h2
  have := hc j u (by rw [List.getElem_map, hye]; exact hu)
  rwa [Nat.zero_add, Nat.mul_comm] at this
/-- One element of the row is laid over. -/
theorem row_set {w w' : World} {B gE n cap i : Nat} {E : List Ce} {y : Ce} {cs : List Value} (hn : E.length = n) (hc : CB w gE 38 cs) (hrow : RowX w B 38 23 (.slice (some ⟨gE, 0, none⟩) n cap) (E.map ceC))
    (hi : i < n) (hy : cdOk y.1) (hc' : CB w' gE 38 (over cs (i * 23) (ceC y))) : RowX w' B 38 23 (.slice (some ⟨gE, 0, none⟩) n cap) ((E.set i y).map ceC) := by
  have hl : (E.map ceC).length = n := by rw [List.length_map, hn]
  have hr := rowX_over (k := i) (p := ceC y) (w := w) (w' := w') (by rw [hl]; exact hrow) (by rw [hl]; exact hi) (ceC_length hy) hc (by rw [Nat.mul_comm]; exact hc')
  rw [hl, ← List.map_set] at hr
  exact hr
theorem grown_nwC {a b c : World} {r : Option Nat} {g : Nat} (h : a.grownBy b r) (k : b.grownBy c (some g)) (hg : a.heap.size ≤ g) : a.grownBy c r := ⟨k.os.trans h.os, k.tape.trans h.tape, k.output.trans h.output, Nat.le_trans h.size k.size, fun i hi hr => (k.block i (Nat.lt_of_lt_of_le hi h.size) (fun e => by injection e with e; omega)).trans (h.block i hi hr)⟩
theorem none_rowC {a b c : World} {r : Option Nat} (h : a.grownBy b none) (k : b.grownBy c r) (hr : ∀ g, r = some g → a.heap.size ≤ g) : a.grownBy c none := ⟨k.os.trans h.os, k.tape.trans h.tape, k.output.trans h.output, Nat.le_trans h.size k.size, fun i hi _ => (k.block i (Nat.lt_of_lt_of_le hi h.size) (fun e => by have := hr i e.symm; omega)).trans (h.block i hi (by simp))⟩
theorem liveE_take {E : List Ce} {now : Int} {k : Nat} {y : Ce} (hy : E[k]? = some y) : liveE (E.take (k + 1)) now = liveE (E.take k) now ++ (if y.1.en < now then [] else [y]) := by
  unfold liveE
  rw [List.take_add_one, hy, List.filter_append]
  congr 1
  by_cases h : y.1.en < now
  · simp [h]
  · simp [h]
theorem liveE_len {E : List Ce} {now : Int} : (liveE E now).length ≤ E.length := List.length_filter_le _ _
theorem liveE_ok {E : List Ce} {now : Int} (h : ∀ x ∈ E, cdOk x.1) : ∀ x ∈ liveE E now, cdOk x.1 := fun x hx => h x (List.mem_filter.1 hx).1
/-- L with x at place k. -/
def insK (L : List Ce) (x : Ce) (k : Nat) : List Ce := L.take k ++ x :: L.drop k
theorem insK_end (L : List Ce) (x : Ce) : insK L x L.length = L ++ [x] := by unfold insK; rw [List.take_length, List.drop_length]
theorem insK_len {L : List Ce} {x : Ce} {k : Nat} (hk : k ≤ L.length) : (insK L x k).length = L.length + 1 := by
  unfold insK
  rw [List.length_append, List.length_take, List.length_cons, List.length_drop]
  omega
theorem insK_at {L : List Ce} {x : Ce} {k : Nat} (hk : k ≤ L.length) : (insK L x k)[k]? = some x := by
  unfold insK
  rw [List.getElem?_append_right (by rw [List.length_take]; omega), List.length_take, show k - min k L.length = 0 by omega]
  rfl
theorem insK_low {L : List Ce} {x y : Ce} {k : Nat} (hy : L[k]? = some y) : (insK L x (k + 1))[k]? = some y := by
  have := (List.getElem?_eq_some_iff.1 hy).1
  unfold insK
  rw [List.getElem?_append_left (by rw [List.length_take]; omega), List.getElem?_take_of_lt (by omega), hy]
theorem insK_swap {L : List Ce} {x y : Ce} {k : Nat} (hy : L[k]? = some y) : ((insK L x (k + 1)).set (k + 1) y).set k x = insK L x k := by
  obtain ⟨hk, hye⟩ := List.getElem?_eq_some_iff.1 hy
  have hd : L.drop k = y :: L.drop (k + 1) := by rw [List.drop_eq_getElem_cons hk, hye]
  have ht : L.take (k + 1) = L.take k ++ [y] := by rw [List.take_add_one, hy]; rfl
  unfold insK
  have hl : (L.take k).length = k := by rw [List.length_take]; omega
  rw [ht, hd, List.append_assoc, List.set_append, hl, if_neg (by omega), List.set_append, hl, if_neg (by omega), show k + 1 - k = 1 by omega, show k - k = 0 by omega]
  rfl
theorem insR_of {L : List Ce} {x : Ce} {k : Nat} (hs : SortN nmC L) (hk : k ≤ L.length) (h1 : ∀ y, L[k]? = some y → nmC x < nmC y) (h2 : ∀ y, 0 < k → L[k - 1]? = some y → ¬ nmC x < nmC y) : InsR nmC L x (insK L x k) := by
  refine ⟨k, hk, rfl, fun j y hj hjk hlt => ?_, h1⟩
  obtain ⟨z, hz⟩ : ∃ z, L[k - 1]? = some z := ⟨_, List.getElem?_eq_getElem (by omega)⟩
  have h3 := h2 z (by omega) hz
  by_cases e : j = k - 1
  · subst e
    rw [hz] at hj
    injection hj with hj
    subst hj
    exact h3 hlt
  · obtain ⟨hjl, rfl⟩ := List.getElem?_eq_some_iff.1 hj
    obtain ⟨hkl, rfl⟩ := List.getElem?_eq_some_iff.1 hz
    have h4 := List.pairwise_iff_getElem.1 hs j (k - 1) (by rw [List.length_map]; exact hjl) (by rw [List.length_map]; exact hkl) (by omega)
    rw [List.getElem_map, List.getElem_map] at h4
    exact h3 (List.lt_trans hlt h4)
theorem str_lessC (x y : List UInt8) : Op.bytesLess (⟨x.toArray⟩ : ByteArray).toList (⟨y.toArray⟩ : ByteArray).toList = decide (x < y) := by
  rw [ByteArray.toList_eq, ByteArray.toList_eq, bytesLess_eq]
end Go.Proofs.YtfpcabfpnekejaaDoor
