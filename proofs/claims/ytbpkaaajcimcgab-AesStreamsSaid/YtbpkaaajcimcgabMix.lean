/- The walk of mixColumns. -/
import Derived.Test.YtbpkaaajcimcgabTrn
import Derived.Deep.QuietTactic
import Derived.BigQuiet
namespace Go.Proofs.Ytbpkaaajcimcgab
open Go.RowKit

theorem below_drewN {B : Nat} {a w : World} (h : Below B a w) (n : Nat) : Below B a (w.drewN n) := ⟨h.os, h.tape, h.output, h.size, h.block⟩
/-- MixColumns. -/
def mixOf (l : List UInt8) : List UInt8 := (List.range 16).map fun i => mixd (l.getD (i / 4 * 4 + i % 4) 0) (l.getD (i / 4 * 4 + (i + 1) % 4) 0) (l.getD (i / 4 * 4 + (i + 2) % 4) 0) (l.getD (i / 4 * 4 + (i + 3) % 4) 0)
theorem mixOf_length (l : List UInt8) : (mixOf l).length = 16 := by simp [mixOf]
theorem mixOf_at {l : List UInt8} {j r : Nat} (hj : j % 4 = 0) (hlt : j + r < 16) (hr : r < 4) {u0 u1 u2 u3 : UInt8} (h0 : l[j + r % 4]? = some u0) (h1 : l[j + (r + 1) % 4]? = some u1) (h2 : l[j + (r + 2) % 4]? = some u2) (h3 : l[j + (r + 3) % 4]? = some u3) :
    (mixOf l)[j + r]? = some (mixd u0 u1 u2 u3) := by
  rw [mixOf, List.getElem?_map, List.getElem?_range hlt]
  have e0 : (j + r) / 4 * 4 = j := by omega
  have e1 : (j + r) % 4 = r % 4 := by omega
  have e2 : (j + r + 1) % 4 = (r + 1) % 4 := by omega
  have e3 : (j + r + 2) % 4 = (r + 2) % 4 := by omega
  have e4 : (j + r + 3) % 4 = (r + 3) % 4 := by omega
  simp only [Option.map_some, List.getD, e0, e1, e2, e3, e4, h0, h1, h2, h3, Option.getD_some]

set_option maxRecDepth 10000 in
set_option maxHeartbeats 1000000 in
theorem mixColumns_any (l : List UInt8) (w : World) (hl : l.length = 16) :
    Calls Try.prog 18 #[.agg (bcells l).toArray] w fun e w' => e = .returned (.agg (bcells (mixOf l)).toArray) ∧ Below w.heap.size w w' := by
  have HL := Lib.hid hl
  clear hl
  go_enter Try.func18, Try.ntmps18
  go_wp2
  go_loopw [4] (fun i wr => ∃ j : Nat, i = .int .i64 j ∧ j ≤ 16 ∧ j % 4 = 0 ∧ BB wr w.heap.size 22 l ∧ BB wr (w.heap.size + 2) 22 (mix (mixOf l) (List.replicate 16 0) j) ∧ Below w.heap.size w wr ∧ BB wr (w.heap.size + 1) 22 (List.replicate 16 0)) (fun i _ => 16 - (intOf i).toNat)
  case atStart => exact ⟨0, rfl, by omega, rfl, ((BB.new w _ l).alloc _).alloc _, by rw [mix_zero]; exact (heap_alloc_at2 _ _ _ _), (((Below.refl _ _).alloc (Nat.le_refl _) _).alloc (by simp) _).alloc (by simp; omega) _, (Below.heap_alloc _ _ _ (by simp)).trans (heap_alloc2_new _ _ _)⟩
  case round =>
    obtain ⟨j, rfl, hj, hj4, hB, hO, hbel, hR⟩ := hrel
    have hll : (mixOf l).length = (List.replicate 16 (0 : UInt8)).length := by rw [mixOf_length]; rfl
    by_cases hlt : j < 16
    · obtain ⟨u0, hu0⟩ : ∃ u, l[j]? = some u := ⟨_, List.getElem?_eq_getElem (by rw [HL.out]; omega)⟩
      obtain ⟨u1, hu1⟩ : ∃ u, l[j + 1]? = some u := ⟨_, List.getElem?_eq_getElem (by rw [HL.out]; omega)⟩
      obtain ⟨u2, hu2⟩ : ∃ u, l[j + 2]? = some u := ⟨_, List.getElem?_eq_getElem (by rw [HL.out]; omega)⟩
      obtain ⟨u3, hu3⟩ : ∃ u, l[j + 3]? = some u := ⟨_, List.getElem?_eq_getElem (by rw [HL.out]; omega)⟩
      have c0 := hB.at_ hu0
      have c1 := hB.at_ hu1
      have c2 := hB.at_ hu2
      have c3 := hB.at_ hu3
      have d := fun i (hi : j ≤ i) (hi' : i < 16) => hO.at_ (i := i) (u := 0) (by rw [mix_get _ _ hll _ _ hi, List.getElem?_replicate, if_pos hi'])
      have d0 := d j (Nat.le_refl _) hlt
      have d1 := d (j + 1) (by omega) (by omega)
      have d2 := d (j + 2) (by omega) (by omega)
      have d3 := d (j + 3) (by omega) (by omega)
      have f0 := hO.free j
      have f1 := hO.free (j + 1)
      have f2 := hO.free (j + 2)
      have f3 := hO.free (j + 3)
      have m0 := mixOf_at (l := l) (r := 0) hj4 (by omega) (by omega) hu0 hu1 hu2 hu3
      have m1 := mixOf_at (l := l) (r := 1) hj4 (by omega) (by omega) hu1 hu2 hu3 hu0
      have m2 := mixOf_at (l := l) (r := 2) hj4 (by omega) (by omega) hu2 hu3 hu0 hu1
      have m3 := mixOf_at (l := l) (r := 3) hj4 (by omega) (by omega) hu3 hu0 hu1 hu2
      have HN : Hid (∀ n, BB ((((((wr.drewN n).setCell ⟨w.heap.size + 2, j, none⟩ (.int .u8 ((mixd u0 u1 u2 u3).toNat : Int))).setCell ⟨w.heap.size + 2, j + 1, none⟩ (.int .u8 ((mixd u1 u2 u3 u0).toNat : Int))).setCell ⟨w.heap.size + 2, j + 2, none⟩ (.int .u8 ((mixd u2 u3 u0 u1).toNat : Int))).setCell ⟨w.heap.size + 2, j + 3, none⟩ (.int .u8 ((mixd u3 u0 u1 u2).toNat : Int)))) (w.heap.size + 2) 22 (mix (mixOf l) (List.replicate 16 0) (j + 4))) := by
        intro n
        have a1 := (hO.drewN n).set_ j (mixd u0 u1 u2 u3) _ rfl
        rw [mix_set _ _ hll j _ m0] at a1
        have a2 := a1.set_ (j + 1) (mixd u1 u2 u3 u0) _ rfl
        rw [mix_set _ _ hll (j + 1) _ m1] at a2
        have a3 := a2.set_ (j + 2) (mixd u2 u3 u0 u1) _ rfl
        rw [mix_set _ _ hll (j + 2) _ m2] at a3
        have a4 := a3.set_ (j + 3) (mixd u3 u0 u1 u2) _ rfl
        rw [mix_set _ _ hll (j + 3) _ m3] at a4
        exact a4
      have HB := Lib.hid hB
      have HBEL := Lib.hid hbel
      have HR := Lib.hid hR
      have HJ := Lib.hid hj4
      have hj3 : j + 3 < 16 := by omega
      have w1 : IntKind.i64.wrap ((j : Int) + 1) = (j : Int) + 1 := by rw [IntKind.wrap_i64]; omega
      have w2 : IntKind.i64.wrap ((j : Int) + 2) = (j : Int) + 2 := by rw [IntKind.wrap_i64]; omega
      have w3 : IntKind.i64.wrap ((j : Int) + 3) = (j : Int) + 3 := by rw [IntKind.wrap_i64]; omega
      have t1 : ((j : Int) + 1).toNat = j + 1 := by omega
      have t2 : ((j : Int) + 2).toNat = j + 2 := by omega
      have t3 : ((j : Int) + 3).toNat = j + 3 := by omega
      have k0 : (j : Int) < 16 := by omega
      have k1 : (j : Int) + 1 < 16 := by omega
      have k2 : (j : Int) + 2 < 16 := by omega
      have k3 : (j : Int) + 3 < 16 := by omega
      have p1 : (0 : Int) ≤ (j : Int) + 1 := by omega
      have p2 : (0 : Int) ≤ (j : Int) + 2 := by omega
      have p3 : (0 : Int) ≤ (j : Int) + 3 := by omega
      clear hB hbel hR hO hj4 d m0 m1 m2 m3 hu0 hu1 hu2 hu3 hll
      go_wp2
      go_quiet (fail)
      clear w1 w2 w3 t1 t2 t3
      go_wp2_with (go_at_call 27; refine (mixed_any _ _ _ _ _).mono ?_; rintro e w1 ⟨rfl, rfl⟩)
      go_roundw
      case rel => exact ⟨j + 4, by go_num, by omega, by have := HJ.out; omega, (((HB.out.drewN _).far (by simp; omega) _).far (by simp; omega) _).far (by simp; omega) _ |>.far (by simp; omega) _, HN.out _, ((((below_drewN HBEL.out _).setCell (by simp; omega) _).setCell (by simp; omega) _).setCell (by simp; omega) _).setCell (by simp; omega) _, ((((HR.out.drewN _).far (by simp) _).far (by simp) _).far (by simp) _).far (by simp) _⟩
      case measure => simp [intOf]; omega
    · have hm := mix_all (mixOf l) (List.replicate 16 (0 : UInt8)) (k := j) (by simp; omega) (by rw [mixOf_length]; omega)
      rw [hm] at hO
      have HO := Lib.hid hO
      have HBEL := Lib.hid hbel
      have HR := Lib.hid hR
      have HAL := Lib.hid (mixOf_length l)
      clear hB hbel hm hR hll hO hj4
      go_wp2_with (first
        | refine wpList_loadB arr16 rfl (.tmp 3) rfl HO.out HAL.out rfl ?_
        | (refine wpList_storeB arr16 rfl (.tmp 2) (.tmp 59) rfl HR.out rfl HAL.out rfl rfl ?_; intro w2 h2 hg2))
      exact bodyPost_ret (results_B arr16 rfl _ h2 HAL.out rfl) rfl ⟨rfl, HBEL.out.trans (below_of_grown hg2 (Nat.le_succ _) HBEL.out.size)⟩
end Go.Proofs.Ytbpkaaajcimcgab
