/- The walks of the Hasher's Sum, of New. -/
import Derived.Test.YtndnmjolcilamaaDoorPd
namespace Go.Proofs.YtndnmjolcilamaaDoor
open Go.RowKit

/-- The digest of all that came. -/
def sumOf (s : HSt) : List UInt8 := (List.range 32).map fun i => (bytesOf ((padOf s).ws.getD (i / 4) 0)).getD (i % 4) 0
theorem sumOf_length (s : HSt) : (sumOf s).length = 32 := by simp [sumOf]
theorem four_eq (l : List UInt8) (h : l.length = 4) : l = [l.getD 0 0, l.getD 1 0, l.getD 2 0, l.getD 3 0] := by
  match l, h with
  | [a, b, c, d], _ => rfl
theorem sumOf_piece (s : HSt) (k : Nat) (hk : k < 8) (u : UInt32) (hu : (padOf s).ws[k]? = some u) : ((sumOf s).drop (4 * k)).take (bytesOf u).length = bytesOf u := by
  rw [bytesOf_length]
  apply List.ext_getElem?
  intro i
  by_cases hi : i < 4
  · rw [List.getElem?_take_of_lt hi, List.getElem?_drop, sumOf, List.getElem?_map, List.getElem?_range (by omega), Option.map_some, show (4 * k + i) / 4 = k by omega, show (4 * k + i) % 4 = i by omega, getD_some hu]
    rw [List.getElem?_eq_getElem (by rw [bytesOf_length]; exact hi), List.getD, List.getElem?_eq_getElem (by rw [bytesOf_length]; exact hi)]
    rfl
  · rw [List.getElem?_eq_none (by rw [List.length_take]; omega), List.getElem?_eq_none (by rw [bytesOf_length]; omega)]
theorem over_mix (a b p : List UInt8) (k : Nat) (hab : a.length = b.length) (hp : (a.drop k).take p.length = p) (hk : k + p.length ≤ a.length) : over (bcells (mix a b k)) k (bcells p) = bcells (mix a b (k + p.length)) := by
  have h1 : (mix a b k).take k = a.take k := by
    rw [mix, List.take_append_of_le_length (by rw [List.length_take]; omega), List.take_take, Nat.min_self]
  have h2 : (mix a b k).drop (k + p.length) = b.drop (k + p.length) := by
    rw [mix, List.drop_append, List.drop_eq_nil_of_le (by rw [List.length_take]; omega), List.nil_append, List.length_take, List.drop_drop]
    congr 1
    omega
  rw [over, bcells_length, ← bcells_take, ← bcells_drop, h1, h2, ← bcells_append, ← bcells_append, mix, List.take_add, hp]
theorem over_all (cs p : List Value) (h : cs.length ≤ p.length) : over cs 0 p = p := by
  rw [over, List.take_zero, List.nil_append, List.drop_eq_nil_of_le (by omega), List.append_nil]
theorem hcells_one (ws : List UInt32) (bl : List UInt8) (c : Nat) : ∀ u ∈ hcells ws bl c, u.oneCell' = true := by
  intro u hu
  rw [hcells, List.mem_append, List.mem_append] at hu
  rcases hu with (h | h) | h
  · exact wcells_one _ u h
  · exact bcells_one _ u h
  · rw [List.mem_singleton.1 h]; rfl
theorem hcells_words {ws : List UInt32} {bl : List UInt8} {c : Nat} (hw : ws.length = 8) : ((hcells ws bl c).drop 0).take 8 = wcells ws := by
  rw [List.drop_zero, hcells, List.append_assoc, List.take_left' (by rw [wcells_length, hw])]
theorem zeroB32 (w : World) : (zeroValue 61).run Tryd.prog w = .ok (.agg (bcells (zeros 32)).toArray) w := by kernel_rfl
theorem zeroH (w : World) : (zeroValue 109).run Tryd.prog w = .ok (.agg (hcells (wz 8) (zeros 64) 0).toArray) w := by kernel_rfl
theorem aggH : AggT Tryd.prog 109 73 := ⟨fun _ => by kernel_rfl, by kernel_rfl⟩
theorem agg8 : AggT Tryd.prog 93 8 := ⟨fun _ => by kernel_rfl, by kernel_rfl⟩
theorem agg32 : AggT Tryd.prog 61 32 := ⟨fun _ => by kernel_rfl, by kernel_rfl⟩

set_option maxRecDepth 10000 in
set_option maxHeartbeats 400000 in
theorem hsum_any (g : Nat) (s : HSt) (w : World) (hT : TB w) (hw : s.ws.length = 8) (hb : s.bl.length = 64) (hc : s.c < 1000000000000)
    (h : CB w g 109 (hcells s.ws s.bl s.c)) :
    Calls Tryd.prog 59 #[.pointer (some ⟨g, 0, none⟩)] w fun e w' => e = .returned (.agg (bcells (sumOf s)).toArray) ∧ w.grownBy w' none := by
  have HT := Lib.hid hT
  have HW := Lib.hid hw
  have HB := Lib.hid hb
  have HC := Lib.hid hc
  have H := Lib.hid h
  have HTL := Lib.hid hT.lt
  have hpl := compress_len s (padBytes s.c) hw hb
  have HPW := Lib.hid (show (padOf s).ws.length = 8 from hpl.1)
  have HPL := Lib.hid (show (hcells (padOf s).ws (padOf s).bl (padOf s).c).length = 73 from hcells_length hpl.1 hpl.2.1)
  clear hpl
  clear hT hw hb hc h
  go_enter Tryd.func59, Tryd.ntmps59
  go_wp2_with (first
    | (have hx := D4; clear hx; fail)
    | (go_at_call 71; refine (pad_any (w.heap.size + 1) s _ T2.out (by omega) HW.out HB.out HC.out D2.out).mono ?_; rintro e3 w3 ⟨rfl, d3, g3⟩; have D3 := Lib.hid d3; have R3 := Lib.hid (R2.out.grown g3 (by omega)); have G3 := Lib.hid (none_new G2.out g3 (by omega)); clear d3 g3)
    | (refine wpList_loadC (off := 0) (p := wcells (padOf s).ws) agg8 rfl (.tmp 11) rfl (D3.out.alloc _) (hcells_words HPW.out) (by rw [HPL.out]; omega) (by go_simp) ?_; have D4 := D3)
    | refine wpList_loadC (off := 0) (p := hcells s.ws s.bl s.c) aggH rfl (.tmp 8) rfl (H.out.alloc _) (by rw [List.drop_zero]; exact List.take_of_length_le (by rw [hcells_length HW.out HB.out]; exact Nat.le_refl _)) (by rw [hcells_length HW.out HB.out]; omega) rfl ?_
    | (refine wpList_storeC (off := 0) (p := hcells s.ws s.bl s.c) aggH.hi rfl (.tmp 3) (.tmp 9) rfl (.agg (hcells s.ws s.bl s.c).toArray) rfl (hcells_one _ _ _) (CB.new1 w _ _ (hcells (wz 8) (zeros 64) 0)) (hcells_length HW.out HB.out) (by rw [hcells_length (c := 0) (wz_length 8) (zeros_length 64)]; omega) (by go_simp) rfl ?_; intro w2 d2 g2; rw [over_all _ _ (by rw [hcells_length HW.out HB.out, hcells_length (wz_length 8) (zeros_length 64)]; exact Nat.le_refl _)] at d2; have D2 := Lib.hid d2; have R2 := Lib.hid (((CB.new w 61 (bcells (zeros 32))).alloc _).grown g2 (by omega)); have G2 := Lib.hid (none_new (grown_trans' (grown_alloc w _ none) (grown_alloc _ _ none)) g2 (by omega)); have T2 := Lib.hid (((HT.out.alloc _).alloc _).grown g2 (by simp)); clear d2 g2)
    | refine wpList_allocC zeroB32 rfl rfl ?_
    | refine wpList_allocC zeroH rfl rfl ?_)
  have HO := Lib.hid (CB.new w3 61 (bcells (zeros 32)))
  have RO := Lib.hid (R3.out.alloc (.cells (bcells (zeros 32)).toArray 61))
  have GO := Lib.hid (grown_trans' G3.out (grown_alloc w3 (.cells (bcells (zeros 32)).toArray 61) none))
  have HSZ := Lib.hid G3.out.size
  have HSZ2 := Lib.hid R3.out.lt
  obtain ⟨S, hS⟩ : ∃ S, S = (padOf s).ws := ⟨_, rfl⟩
  rw [← hS] at HPW ⊢
  have HS := Lib.hid hS
  clear hS
  have hll : (sumOf s).length = (zeros 32).length := by rw [sumOf_length, zeros_length]
  have HLL := Lib.hid hll
  clear hll
  go_loopw [13] (fun i wr => ∃ k : Nat, i = .int .i64 k ∧ k ≤ 8 ∧ CB wr w3.heap.size 61 (bcells (mix (sumOf s) (zeros 32) (4 * k))) ∧ CB wr w.heap.size 61 (bcells (zeros 32)) ∧ w.grownBy wr none) (fun i _ => 8 - (intOf i).toNat)
  case atStart => exact ⟨0, rfl, by omega, by rw [mix_zero]; exact HO.out, RO.out, GO.out⟩
  case round =>
    obtain ⟨k, rfl, hk, hO, hR, hG⟩ := hrel
    by_cases hlt : k < 8
    · obtain ⟨u, hu⟩ : ∃ u, S[k]? = some u := ⟨_, List.getElem?_eq_getElem (by rw [HPW.out]; omega)⟩
      have hix := run_indexW Tryd.underlying93 sz32 Tryd.underlying90 HPW.out hu
      obtain ⟨m, hm⟩ : ∃ m, m = 4 * k := ⟨_, rfl⟩
      have hov := over_mix (sumOf s) (zeros 32) (bytesOf u) m HLL.out (by rw [hm]; exact sumOf_piece s k hlt u (by rw [← HS.out]; exact hu)) (by rw [sumOf_length, bytesOf_length]; omega)
      rw [bytesOf_length, show m + 4 = 4 * (k + 1) by omega] at hov
      rw [← hm] at hO
      have HOV := Lib.hid hov
      have HOO := Lib.hid hO
      have HR := Lib.hid hR
      have HG := Lib.hid hG
      have HML := Lib.hid (show m + 4 ≤ (bcells (mix (sumOf s) (zeros 32) m)).length by rw [bcells_length, mix_length _ _ _ HLL.out, zeros_length]; omega)
      have hki : (k : Int) < 8 := by omega
      have w1 : (k : Int) * 4 = (m : Int) := by omega
      have w2 : IntKind.i64.wrap (m : Int) = (m : Int) := by rw [IntKind.wrap_i64]; omega
      have b1 : (m : Int) ≤ 32 := by omega
      have b2 : ¬ (32 = m) := by omega
      have b3 : (m : Int) < 32 := by omega
      have h4 : 4 ≤ 32 - m := by omega
      have HLT := Lib.hid hlt
      clear hov hO hR hG hu hm hlt hk
      go_wp2_with (go_at_call 72; refine (putWord_any w3.heap.size m _ _ _ _ u _ h4 HOO.out HML.out).mono ?_; rintro e5 w5 ⟨rfl, h5, g5⟩; rw [HOV.out] at h5; have H5 := Lib.hid h5; have R5 := Lib.hid (HR.out.grown g5 (by have := HSZ2.out; omega)); have G5 := Lib.hid (none_new HG.out g5 HSZ.out); clear h5 g5)
      go_roundw
      case rel => exact ⟨k + 1, by go_num, by have := HLT.out; omega, H5.out, R5.out, G5.out⟩
      case measure => have := HLT.out; simp [intOf]; omega
    · obtain rfl : k = 8 := by omega
      rw [mix_all _ _ (by rw [zeros_length]; omega) (by rw [sumOf_length]; omega)] at hO
      have HOO := Lib.hid hO
      have HR := Lib.hid hR
      have HG := Lib.hid hG
      clear hO hR hG
      go_wp2_with (first
        | refine wpList_loadC (off := 0) (p := bcells (sumOf s)) agg32 rfl (.tmp 4) rfl HOO.out (by rw [List.drop_zero]; exact List.take_of_length_le (by rw [bcells_length, sumOf_length]; exact Nat.le_refl _)) (by rw [bcells_length, sumOf_length]; omega) rfl ?_
        | (refine wpList_storeC (off := 0) (p := bcells (sumOf s)) agg32.hi rfl (.tmp 2) (.tmp 23) rfl (.agg (bcells (sumOf s)).toArray) rfl (bcells_one _) HR.out (by rw [bcells_length, sumOf_length]) (by rw [bcells_length, zeros_length]; omega) rfl rfl ?_; intro w5 h5 g5; rw [over_all _ _ (by rw [bcells_length, bcells_length, sumOf_length, zeros_length]; exact Nat.le_refl _)] at h5))
      exact bodyPost_ret (results_C Tryd.underlying61 agg32.hi rfl _ h5 (by rw [bcells_length, sumOf_length]) rfl) rfl ⟨rfl, none_new HG.out g5 (Nat.le_refl _)⟩
end Go.Proofs.YtndnmjolcilamaaDoor
