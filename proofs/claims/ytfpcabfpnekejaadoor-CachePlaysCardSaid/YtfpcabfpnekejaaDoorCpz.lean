/- cache: the document's Put, whole; the code's Drop. -/
import Derived.Test.YtfpcabfpnekejaaDoorCpg
namespace Go.Proofs.YtfpcabfpnekejaaDoor
open Go.RowKit Go.Maps Go.WideMaps

theorem crefPut_any (w : World) (B m : Nat) (E : List Ce) (h : LC w B m E) (x : Ce) (hx : cdOk x.1) (now : Int) (hs : SortN nmC E) :
    Calls Tryd.prog 10 #[.pointer (some ⟨m, 0, none⟩), .agg (ceC x).toArray, .int .i64 now] w fun e w' => PutLC w B m E x now e w' := by
  cases hp : parses x.1.cl with
  | false => exact crefPut_a w B m E h x hx now hp
  | true =>
    cases hg : gOk x.1.sv x.1.st x.1.en x.1.fl with
    | false => exact crefPut_b w B m E h x hx now hp hg
    | true =>
      by_cases ho : x.1.en < now
      · exact crefPut_c w B m E h x hx now hp hg ho
      · cases ha : atS nmC (liveE E now) x.1.sv with
        | some i => exact crefPut_known w B m E h x hx now hp hg ho i ha
        | none =>
          by_cases h8 : (liveE E now).length < 8
          · exact crefPut_new w B m E h x hx now hp hg ho (hs.filter _) ha h8
          · exact crefPut_full w B m E h x hx now hp hg ho ha (by omega)
set_option maxRecDepth 10000 in
set_option maxHeartbeats 1000000 in
theorem cdrop_any (n : List UInt8) (hn : n.length ≤ 1000) (w : World) (c b : Nat) (M : Cm) (h : KS w c b M) (B : Bool) (hB : B = true ↔ n ∈ keysM M) :
    Calls Tryd.prog 7 #[.pointer (some ⟨c, 0, none⟩), strV n] w fun e w' => e = .returned (.bool B) ∧ KS w' c b (withoutM M n) ∧ w.grownBy w' (some b) := by
  have HOK := Lib.hid (okS n (by omega))
  have q0 : w.cell? ⟨c, 0, none⟩ = some (.map (some b)) := h.1.at_ rfl
  have HBS := Lib.hid h
  have HLZ := Lib.hid zeroCe_length
  have HSUB := Lib.hid (show ∀ p ∈ withoutM M n, p ∈ M from fun p hp => (List.mem_filter.1 hp).1)
  by_cases hin : n ∈ keysM M
  · obtain ⟨v, hv⟩ := mem_keysM.1 hin
    obtain rfl : B = true := hB.2 hin
    have HV := Lib.hid hv
    have HLV := Lib.hid (ceC_length (h.2.2.2 _ hv).2.1)
    clear h hn hin hv hB
    go_enter Tryd.func7, Tryd.ntmps7
    go_wp2_with (first
      | refine wpList_lookIn keyedS strV_inj rfl _ _ rfl Tryd.underlying50 zeroC_run HBS.out.2.1 rfl n v rfl HV.out ?_
      | (refine wpList_allocC zeroC_run rfl rfl ?_; have HN1 := Lib.hid (CB.new w 38 (ceC zeroCe)); have HG1 := Lib.hid (grown_alloc w (.cells (ceC zeroCe).toArray 38) none))
      | (refine wpList_storeC (off := 0) (p := ceC v) aggC.hi rfl (.tmp 5) (.tmp 14) rfl (.agg (ceC v).toArray) rfl (ceC_one v) HN1.out HLV.out (by rw [HLZ.out]; omega) (by first | rfl | go_simp) (by first | rfl | go_simp) ?_; intro w2 h2 g2; have G2 := Lib.hid (none_new HG1.out g2 (Nat.le_refl _)); have S2 := Lib.hid (HBS.out.none G2.out); have q1 := S2.out.1.at_ (i := 0) rfl; clear h2 g2 q0)
      | (refine wpList_delM keyedS strV_inj rfl _ _ rfl Tryd.underlying50 S2.out.2.1 rfl n HOK.out rfl ?_; intro w3 hM3 hT3))
    go_ret
    exact ⟨rfl, S2.out.map hM3 hT3.grown HSUB.out, grown_trans' (grown_some G2.out b) hT3.grown⟩
  · obtain rfl : B = false := by
      cases B with
      | false => rfl
      | true => exact absurd (hB.1 rfl) hin
    have HIN := Lib.hid hin
    clear h hn hin hB
    go_enter Tryd.func7, Tryd.ntmps7
    go_wp2_with (first
      | refine wpList_lookOut keyedS strV_inj rfl _ _ rfl Tryd.underlying50 zeroC_run HBS.out.2.1 rfl n HOK.out rfl HIN.out ?_
      | (refine wpList_allocC zeroC_run rfl rfl ?_; have HN1 := Lib.hid (CB.new w 38 (ceC zeroCe)); have HG1 := Lib.hid (grown_alloc w (.cells (ceC zeroCe).toArray 38) none))
      | (refine wpList_storeC (off := 0) (p := ceC zeroCe) aggC.hi rfl (.tmp 5) (.tmp 14) rfl (.agg (ceC zeroCe).toArray) rfl (ceC_one zeroCe) HN1.out HLZ.out (by rw [HLZ.out]; omega) (by first | rfl | go_simp) (by first | rfl | go_simp) ?_; intro w2 h2 g2; have G2 := Lib.hid (none_new HG1.out g2 (Nat.le_refl _)); have S2 := Lib.hid (HBS.out.none G2.out); have q1 := S2.out.1.at_ (i := 0) rfl; clear h2 g2 q0)
      | (refine wpList_delM keyedS strV_inj rfl _ _ rfl Tryd.underlying50 S2.out.2.1 rfl n HOK.out rfl ?_; intro w3 hM3 hT3))
    go_ret
    exact ⟨rfl, S2.out.map hM3 hT3.grown HSUB.out, grown_trans' (grown_some G2.out b) hT3.grown⟩
end Go.Proofs.YtfpcabfpnekejaaDoor
