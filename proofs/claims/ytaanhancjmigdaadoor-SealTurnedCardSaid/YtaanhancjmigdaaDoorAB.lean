/- The walk of mixColumns. -/
import Derived.Test.YtaanhancjmigdaaDoorAA
import Derived.Deep.QuietTactic
import Derived.BigQuiet
import Derived.StillTactics
namespace Go.Proofs.YtaanhancjmigdaaDoor
open Go.RowKit

theorem below_drewN {B : Nat} {a w : World} (h : Below B a w) (n : Nat) : Below B a (w.drewN n) := ⟨h.os, h.tape, h.output, h.size, h.block⟩
/-- MixColumns. -/
def mixOf (l : List UInt8) : List UInt8 := (List.range 16).map fun i => mixd (l.getD (i / 4 * 4 + i % 4) 0) (l.getD (i / 4 * 4 + (i + 1) % 4) 0) (l.getD (i / 4 * 4 + (i + 2) % 4) 0) (l.getD (i / 4 * 4 + (i + 3) % 4) 0)
theorem mixOf_length (l : List UInt8) : (mixOf l).length = 16 := by simp [mixOf]
theorem mixOf_at {l : List UInt8} {j r : Nat} (hj : j % 4 = 0) (hlt : j + r < 16) (hr : r < 4) {u0 u1 u2 u3 : UInt8} (h0 : l[j + r % 4]? = some u0) (h1 : l[j + (r + 1) % 4]? = some u1) (h2 : l[j + (r + 2) % 4]? = some u2) (h3 : l[j + (r + 3) % 4]? = some u3) :
    (mixOf l)[j + r]? = some (mixd u0 u1 u2 u3) := by
  rw [mixOf, List.getElem?_map, List.getElem?_range hlt]
  have e0 : (j + r) / 4 * 4 = j := by omega
  have e1 : (j + r) % 4 = r % 4 := by omega
  have e2 : (j + r + 1) % 4 = (r + 1) % 4 := by omega
  have e3 : (j + r + 2) % 4 = (r + 2) % 4 := by omega
  have e4 : (j + r + 3) % 4 = (r + 3) % 4 := by omega
  simp only [Option.map_some, List.getD, e0, e1, e2, e3, e4, h0, h1, h2, h3, Option.getD_some]

set_option maxRecDepth 10000 in
set_option maxHeartbeats 1000000 in
theorem mixColumns_any (l : List UInt8) (w : World) (hl : l.length = 16) :
    Calls Tryd.prog 86 #[.agg (bcells l).toArray] w fun e w' => e = .returned (.agg (bcells (mixOf l)).toArray) ∧ Below w.heap.size w w' := by
  have HL := Lib.hid hl
  clear hl
  go_enter Tryd.func86, Tryd.ntmps86
  go_wp2
  go_loopw [4] (fun i wr => ∃ j : Nat, i = .int .i64 j ∧ j ≤ 16 ∧ j % 4 = 0 ∧ BB wr w.heap.size 22 l ∧ BB wr (w.heap.size + 2) 22 (mix (mixOf l) (List.replicate 16 0) j) ∧ Below w.heap.size w wr ∧ BB wr (w.heap.size + 1) 22 (List.replicate 16 0)) (fun i _ => 16 - (intOf i).toNat)
  case atStart => exact ⟨0, rfl, by omega, rfl, ((BB.new w _ l).alloc _).alloc _, by rw [mix_zero]; exact (heap_alloc_at2 _ _ _ _), (((Below.refl _ _).alloc (Nat.le_refl _) _).alloc (by simp) _).alloc (by simp; omega) _, (Below.heap_alloc _ _ _ (by simp)).trans (heap_alloc2_new _ _ _)⟩
  case round =>
    obtain ⟨j, rfl, hj, hj4, hB, hO, hbel, hR⟩ := hrel
    have hll : (mixOf l).length = (List.replicate 16 (0 : UInt8)).length := by rw [mixOf_length]; rfl
    by_cases hlt : j < 16
    · obtain ⟨u0, hu0⟩ : ∃ u, l[j]? = some u := ⟨_, List.getElem?_eq_getElem (by rw [HL.out]; omega)⟩
      obtain ⟨u1, hu1⟩ : ∃ u, l[j + 1]? = some u := ⟨_, List.getElem?_eq_getElem (by rw [HL.out]; omega)⟩
      obtain ⟨u2, hu2⟩ : ∃ u, l[j + 2]? = some u := ⟨_, List.getElem?_eq_getElem (by rw [HL.out]; omega)⟩
      obtain ⟨u3, hu3⟩ : ∃ u, l[j + 3]? = some u := ⟨_, List.getElem?_eq_getElem (by rw [HL.out]; omega)⟩
      have c0 := hB.at_ hu0
      have c1 := hB.at_ hu1
      have c2 := hB.at_ hu2
      have c3 := hB.at_ hu3
      have d := fun i (hi : j ≤ i) (hi' : i < 16) => hO.at_ (i := i) (u := 0) (by rw [mix_get _ _ hll _ _ hi, List.getElem?_replicate, if_pos hi'])
      have d0 := d j (Nat.le_refl _) hlt
      have d1 := d (j + 1) (by omega) (by omega)
      have d2 := d (j + 2) (by omega) (by omega)
      have d3 := d (j + 3) (by omega) (by omega)
      have f0 := hO.free j
      have f1 := hO.free (j + 1)
      have f2 := hO.free (j + 2)
      have f3 := hO.free (j + 3)
      have m0 := mixOf_at (l := l) (r := 0) hj4 (by omega) (by omega) hu0 hu1 hu2 hu3
      have m1 := mixOf_at (l := l) (r := 1) hj4 (by omega) (by omega) hu1 hu2 hu3 hu0
      have m2 := mixOf_at (l := l) (r := 2) hj4 (by omega) (by omega) hu2 hu3 hu0 hu1
      have m3 := mixOf_at (l := l) (r := 3) hj4 (by omega) (by omega) hu3 hu0 hu1 hu2
      have HN : Hid (∀ n, BB ((((((wr.drewN n).setCell ⟨w.heap.size + 2, j, none⟩ (.int .u8 ((mixd u0 u1 u2 u3).toNat : Int))).setCell ⟨w.heap.size + 2, j + 1, none⟩ (.int .u8 ((mixd u1 u2 u3 u0).toNat : Int))).setCell ⟨w.heap.size + 2, j + 2, none⟩ (.int .u8 ((mixd u2 u3 u0 u1).toNat : Int))).setCell ⟨w.heap.size + 2, j + 3, none⟩ (.int .u8 ((mixd u3 u0 u1 u2).toNat : Int)))) (w.heap.size + 2) 22 (mix (mixOf l) (List.replicate 16 0) (j + 4))) := by
        intro n
        have a1 := (hO.drewN n).set_ j (mixd u0 u1 u2 u3) _ rfl
        rw [mix_set _ _ hll j _ m0] at a1
        have a2 := a1.set_ (j + 1) (mixd u1 u2 u3 u0) _ rfl
        rw [mix_set _ _ hll (j + 1) _ m1] at a2
        have a3 := a2.set_ (j + 2) (mixd u2 u3 u0 u1) _ rfl
        rw [mix_set _ _ hll (j + 2) _ m2] at a3
        have a4 := a3.set_ (j + 3) (mixd u3 u0 u1 u2) _ rfl
        rw [mix_set _ _ hll (j + 3) _ m3] at a4
        exact a4
      have HB := Lib.hid hB
      have HBEL := Lib.hid hbel
      have HR := Lib.hid hR
      have HJ := Lib.hid hj4
      have hj3 : j + 3 < 16 := by omega
      have w1 : IntKind.i64.wrap ((j : Int) + 1) = (j : Int) + 1 := by rw [IntKind.wrap_i64]; omega
      have w2 : IntKind.i64.wrap ((j : Int) + 2) = (j : Int) + 2 := by rw [IntKind.wrap_i64]; omega
      have w3 : IntKind.i64.wrap ((j : Int) + 3) = (j : Int) + 3 := by rw [IntKind.wrap_i64]; omega
      have t1 : ((j : Int) + 1).toNat = j + 1 := by omega
      have t2 : ((j : Int) + 2).toNat = j + 2 := by omega
      have t3 : ((j : Int) + 3).toNat = j + 3 := by omega
      have k0 : (j : Int) < 16 := by omega
      have k1 : (j : Int) + 1 < 16 := by omega
      have k2 : (j : Int) + 2 < 16 := by omega
      have k3 : (j : Int) + 3 < 16 := by omega
      have p1 : (0 : Int) ≤ (j : Int) + 1 := by omega
      have p2 : (0 : Int) ≤ (j : Int) + 2 := by omega
      have p3 : (0 : Int) ≤ (j : Int) + 3 := by omega
      clear hB hbel hR hO hj4 d m0 m1 m2 m3 hu0 hu1 hu2 hu3 hll
      go_wp2
      go_quiet (fail)
      clear w1 w2 w3 t1 t2 t3
      go_wp2_with (go_at_call 97; refine (mixed_any _ _ _ _ _).mono ?_; rintro e w1 ⟨rfl, rfl⟩)
      go_roundw
      case rel => exact ⟨j + 4, by go_num, by omega, by have := HJ.out; omega, (((HB.out.drewN _).far (by simp; omega) _).far (by simp; omega) _).far (by simp; omega) _ |>.far (by simp; omega) _, HN.out _, ((((below_drewN HBEL.out _).setCell (by simp; omega) _).setCell (by simp; omega) _).setCell (by simp; omega) _).setCell (by simp; omega) _, ((((HR.out.drewN _).far (by simp) _).far (by simp) _).far (by simp) _).far (by simp) _⟩
      case measure => simp [intOf]; omega
    · have hm := mix_all (mixOf l) (List.replicate 16 (0 : UInt8)) (k := j) (by simp; omega) (by rw [mixOf_length]; omega)
      rw [hm] at hO
      have HO := Lib.hid hO
      have HBEL := Lib.hid hbel
      have HR := Lib.hid hR
      have HAL := Lib.hid (mixOf_length l)
      clear hB hbel hm hR hll hO hj4
      go_wp2_with (first
        | refine wpList_loadB arr16 rfl (.tmp 3) rfl HO.out HAL.out rfl ?_
        | (refine wpList_storeB arr16 rfl (.tmp 2) (.tmp 59) rfl HR.out rfl HAL.out rfl rfl ?_; intro w2 h2 hg2))
      exact bodyPost_ret (results_B arr16 rfl _ h2 HAL.out rfl) rfl ⟨rfl, HBEL.out.trans (below_of_grown hg2 (Nat.le_succ _) HBEL.out.size)⟩
end Go.Proofs.YtaanhancjmigdaaDoor
namespace Go.Proofs.YtaanhancjmigdaaDoor
open Go.RowKit

/-- The state behind n of the first nine rounds. -/
def roundsOf (K s : List UInt8) : Nat → List UInt8
  | 0 => s
  | n + 1 => addKeyOf K (mixOf (shiftOf (subOf K (roundsOf K s n)))) (n + 1)
/-- Block, under a cipher that holds K. -/
def blockOf (K l : List UInt8) : List UInt8 := addKeyOf K (shiftOf (subOf K (roundsOf K (addKeyOf K l 0) 9))) 10
theorem roundsOf_length (K s : List UInt8) (hs : s.length = 16) : ∀ n, (roundsOf K s n).length = 16
  | 0 => hs
  | _ + 1 => addKeyOf_length _ _ _
theorem blockOf_length (K l : List UInt8) : (blockOf K l).length = 16 := addKeyOf_length _ _ _

set_option maxRecDepth 10000 in
set_option maxHeartbeats 1000000 in
theorem block_any (gC : Nat) (K l : List UInt8) (w : World) (hK : BB w gC 110 K) (hKl : K.length = 432) (hl : l.length = 16) :
    Calls Tryd.prog 71 #[.pointer (some ⟨gC, 0, none⟩), .agg (bcells l).toArray] w fun e w' => e = .returned (.agg (bcells (blockOf K l)).toArray) ∧ Below w.heap.size w w' := by
  have hgC := hK.lt
  have HK := Lib.hid hK
  have HKL := Lib.hid hKl
  have HL := Lib.hid hl
  have hb0 := BB.new w 22 l
  have hb1 := hb0.alloc (.cells (bcells (List.replicate 16 0)).toArray 22)
  have hr0 : BB ((w.alloc (.cells (bcells l).toArray 22)).alloc (.cells (bcells (List.replicate 16 0)).toArray 22)) (w.heap.size + 1) 22 (List.replicate 16 0) := heap_alloc2_new _ _ _
  have hbe : Below w.heap.size w ((w.alloc (.cells (bcells l).toArray 22)).alloc (.cells (bcells (List.replicate 16 0)).toArray 22)) := ((Below.refl _ _).alloc (Nat.le_refl _) _).alloc (by simp) _
  have HB1 := Lib.hid hb1
  have HR0 := Lib.hid hr0
  have HBE := Lib.hid hbe
  have hA0 : ∀ (W : World), BB W gC 110 K → Calls Tryd.prog 85 #[.pointer (some ⟨gC, 0, none⟩), .agg (bcells l).toArray, .int .i64 0] W fun e w' => e = .returned (.agg (bcells (addKeyOf K l 0)).toArray) ∧ Below W.heap.size W w' :=
    fun W h => addKey_any gC K l 0 W h hKl hl (by omega)
  have HA0 := Lib.hid hA0
  have hz : (List.replicate 16 (0 : UInt8)).length = 16 := rfl
  have HZ := Lib.hid hz
  clear hK hKl hl hb0 hb1 hr0 hbe hA0 hz
  go_enter Tryd.func71, Tryd.ntmps71
  go_wp2_with (first
    | refine wpList_loadB arr16 rfl (.tmp 3) rfl HB1.out HL.out rfl ?_
    | (go_at_call 85; refine (HA0.out _ (HK.out.below HBE.out hgC)).mono ?_; rintro e w1 ⟨rfl, hb1⟩; have hs1 : w.heap.size + 2 ≤ w1.heap.size := (by have := hb1.size; simp at this; omega); have HB2 := Lib.hid (HBE.out.trans (hb1.mono (by simp; omega))); have HR1 := Lib.hid (HR0.out.below hb1 (by simp)); clear hb1)
    | (refine wpList_storeB arr16 rfl (.tmp 5) (.tmp 9) rfl (BB.new w1 22 (List.replicate 16 0)) HZ.out (addKeyOf_length K l 0) rfl rfl ?_; intro w2 h2 hg2; have HS2 := Lib.hid h2; have HB3 := Lib.hid ((HB2.out.alloc HB2.out.size _).trans (below_of_grown hg2 HB2.out.size (by simp; have := HB2.out.size; omega))); have HR2 := Lib.hid ((HR1.out.alloc _).grown hg2 (by omega)); clear h2 hg2))
  have hs0 := roundsOf_length K (addKeyOf K l 0) (addKeyOf_length _ _ _)
  have HS0 := Lib.hid hs0
  clear hs0
  go_loopw [6] (fun i wr => ∃ n : Nat, i = .int .i64 ((n : Int) + 1) ∧ n ≤ 9 ∧ BB wr w1.heap.size 22 (roundsOf K (addKeyOf K l 0) n) ∧ BB wr (w.heap.size + 1) 22 (List.replicate 16 0) ∧ Below w.heap.size w wr) (fun i _ => 11 - (intOf i).toNat)
  case atStart => exact ⟨0, rfl, by omega, HS2.out, HR2.out, HB3.out⟩
  case round =>
    obtain ⟨n, rfl, hn, hS, hR, hbel⟩ := hrel
    have HS := Lib.hid hS
    have HR := Lib.hid hR
    have HB := Lib.hid hbel
    have hgs := hS.lt
    have hbs := hbel.size
    clear hS hR hbel
    by_cases hlt : n < 9
    · have hA : ∀ (W : World), BB W gC 110 K → Calls Tryd.prog 85 #[.pointer (some ⟨gC, 0, none⟩), .agg (bcells (mixOf (shiftOf (subOf K (roundsOf K (addKeyOf K l 0) n))))).toArray, .int .i64 ((n : Int) + 1)] W fun e w' => e = .returned (.agg (bcells (roundsOf K (addKeyOf K l 0) (n + 1))).toArray) ∧ Below W.heap.size W w' :=
        fun W h => addKey_any gC K _ (n + 1) W h HKL.out (mixOf_length _) (by omega)
      have HA := Lib.hid hA
      clear hA
      have hki : (n : Int) < 9 := by omega
      go_wp2_with (first
        | refine wpList_loadB arr16 rfl (.tmp 5) rfl HS.out (HS0.out n) rfl ?_
        | (go_at_call 88; refine (subBytes_any gC K _ _ (HK.out.below HB.out hgC) HKL.out (HS0.out n)).mono ?_; rintro e w3 ⟨rfl, hb3⟩; have HC3 := Lib.hid hb3; have hz3 := hb3.size; clear hb3)
        | (go_at_call 87; refine (shiftRows_any _ _ (by rw [subOf_length]; exact HS0.out n)).mono ?_; rintro e w4 ⟨rfl, hb4⟩; have HC4 := Lib.hid (HC3.out.trans (hb4.mono hz3)); have hz4 := HC4.out.size; clear hb4)
        | (go_at_call 86; refine (mixColumns_any _ _ (shiftOf_length _)).mono ?_; rintro e w5 ⟨rfl, hb5⟩; have HC5 := Lib.hid (HC4.out.trans (hb5.mono hz4)); have hz5 := HC5.out.size; clear hb5)
        | (go_at_call 85; refine (HA.out _ (HK.out.below (HB.out.trans (HC5.out.mono hbs)) hgC)).mono ?_; rintro e w6 ⟨rfl, hb6⟩; have HC6 := Lib.hid (HC5.out.trans (hb6.mono hz5)); have hz6 := HC6.out.size; clear hb6)
        | (refine wpList_storeB arr16 rfl (.tmp 5) (.tmp 21) rfl (HS.out.below HC6.out hgs) (HS0.out n) (HS0.out (n + 1)) rfl rfl ?_; intro w7 h7 hg7; have HS7 := Lib.hid h7; have HB7 := Lib.hid ((HB.out.trans (HC6.out.mono hbs)).trans (below_of_grown hg7 (by omega) (by omega))); have HR7 := Lib.hid ((HR.out.below HC6.out HR.out.lt).grown hg7 (by omega)); clear h7 hg7))
      go_roundw
      case rel => exact ⟨n + 1, by go_num, by omega, HS7.out, HR7.out, HB7.out⟩
      case measure => simp [intOf]; omega
    · obtain rfl : n = 9 := by omega
      have hA : ∀ (W : World), BB W gC 110 K → Calls Tryd.prog 85 #[.pointer (some ⟨gC, 0, none⟩), .agg (bcells (shiftOf (subOf K (roundsOf K (addKeyOf K l 0) 9)))).toArray, .int .i64 10] W fun e w' => e = .returned (.agg (bcells (blockOf K l)).toArray) ∧ Below W.heap.size W w' :=
        fun W h => addKey_any gC K _ 10 W h HKL.out (shiftOf_length _) (by omega)
      have HA := Lib.hid hA
      clear hA
      go_wp2_with (first
        | refine wpList_loadB arr16 rfl (.tmp 5) rfl HS.out (HS0.out 9) rfl ?_
        | (go_at_call 88; refine (subBytes_any gC K _ _ (HK.out.below HB.out hgC) HKL.out (HS0.out 9)).mono ?_; rintro e w3 ⟨rfl, hb3⟩; have HC3 := Lib.hid hb3; have hz3 := hb3.size; clear hb3)
        | (go_at_call 87; refine (shiftRows_any _ _ (by rw [subOf_length]; exact HS0.out 9)).mono ?_; rintro e w4 ⟨rfl, hb4⟩; have HC4 := Lib.hid (HC3.out.trans (hb4.mono hz3)); have hz4 := HC4.out.size; clear hb4)
        | (go_at_call 85; refine (HA.out _ (HK.out.below (HB.out.trans (HC4.out.mono hbs)) hgC)).mono ?_; rintro e w6 ⟨rfl, hb6⟩; have HC6 := Lib.hid (HC4.out.trans (hb6.mono hz4)); have hz6 := HC6.out.size; clear hb6)
        | (refine wpList_storeB arr16 rfl (.tmp 4) (.tmp 27) rfl (HR.out.below HC6.out HR.out.lt) HZ.out (blockOf_length K l) rfl rfl ?_; intro w7 h7 hg7; have HB7 := Lib.hid ((HB.out.trans (HC6.out.mono hbs)).trans (below_of_grown hg7 (by omega) (by omega)))))
      exact bodyPost_ret (results_B arr16 rfl _ h7 (blockOf_length K l) rfl) rfl ⟨rfl, HB7.out⟩
end Go.Proofs.YtaanhancjmigdaaDoor
namespace Go.Proofs.YtaanhancjmigdaaDoor
open Go.RowKit

theorem arr256 : ArrT Tryd.prog 90 5 256 := ⟨Tryd.underlying90, by kernel_rfl⟩

theorem zeros_at (n i : Nat) (h : i < n) : (zeros n)[i]? = some 0 := by rw [zeros, List.getElem?_replicate, if_pos h]

section
variable {P : Program} {w : World} {ops : Array Oper} {rest : List Oper} {o : Oper} {a : Act} {Q : Exit → Act → World → Prop} {ty : TypeId} {n : Nat}
theorem run_allocB (hz : ∀ w, (zeroValue ty).run P w = .ok (.agg (bcells (zeros n)).toArray) w) (w : World) :
    (Instr.alloc ty true (.tuple #[])).run P w = .ok (.pointer (some ⟨w.heap.size, 0, none⟩)) (w.alloc (.cells (bcells (zeros n)).toArray ty)) := by
  simp [Instr.alloc, hz, newVar, newRow, Value.cells]
theorem wpList_allocB (hz : ∀ w, (zeroValue ty).run P w = .ok (.agg (bcells (zeros n)).toArray) w) (hgd : o.guard = none) (ho : o.op = .alloc ty)
    (hk : wpList P ops Q rest (a.put o.dst (.pointer (some ⟨w.heap.size, 0, none⟩))) (w.alloc (.cells (bcells (zeros n)).toArray ty))) : wpList P ops Q (o :: rest) a w := by
  refine wpList_plain hgd fun K hK => ?_
  unfold Oper.wp execOp
  simp only [ho, Sem.run_bind, run_allocB hz w, Result.andThen_ok, Sem.run_pure]
  exact hK _ _ hk
end
theorem zero256 (w : World) : (zeroValue 90).run Tryd.prog w = .ok (.agg (bcells (zeros 256)).toArray) w := by kernel_rfl

/-- The k-th power of 3. -/
def pw : Nat → UInt8
  | 0 => 1
  | k + 1 => pw k ^^^ dbl (pw k)
/-- The powers of 3, the first n laid. -/
def powTo (n : Nat) : List UInt8 := (List.range 256).map fun i => if i ≤ n then pw i else 0
theorem powTo_length (n : Nat) : (powTo n).length = 256 := by simp [powTo]
theorem powTo_at (n i : Nat) (hi : i < 256) : (powTo n)[i]? = some (if i ≤ n then pw i else 0) := by
  rw [powTo, List.getElem?_map, List.getElem?_range hi]
  rfl
theorem powTo_zero : (zeros 256).set 0 1 = powTo 0 := by decide +kernel
theorem powTo_set (n : Nat) : (powTo n).set (n + 1) (pw (n + 1)) = powTo (n + 1) := by
  apply List.ext_getElem?
  intro i
  rw [List.getElem?_set]
  by_cases hi : i < 256
  · rw [powTo_at _ _ hi, powTo_at _ _ hi, powTo_length]
    by_cases e : n + 1 = i
    · subst e
      rw [if_pos rfl, if_pos (by omega), if_pos (Nat.le_refl _)]
    · rw [if_neg e]
      by_cases h : i ≤ n
      · rw [if_pos h, if_pos (by omega)]
      · rw [if_neg h, if_neg (by omega)]
  · rw [List.getElem?_eq_none (l := powTo (n + 1)) (by rw [powTo_length]; omega), powTo_length, List.getElem?_eq_none (l := powTo n) (by rw [powTo_length]; omega)]
    by_cases e : n + 1 = i
    · rw [if_pos e, if_neg (by omega)]
    · rw [if_neg e]
theorem bcells_setA (l : List UInt8) (i : Nat) (u : UInt8) : bcells (l.set i u) = (bcells l).set i (.int .u8 (u.toNat : Int)) := by simp [bcells, List.map_set]
/-- The table, behind n rounds. -/
def subTo : Nat → List UInt8
  | 0 => (zeros 256).set 0 (mixB 0)
  | n + 1 => (subTo n).set (pw n).toNat (mixB (pw (255 - n)))
theorem subTo_length : ∀ n, (subTo n).length = 256
  | 0 => by rw [subTo, List.length_set, zeros_length]
  | n + 1 => by rw [subTo, List.length_set, subTo_length n]
def subT : List UInt8 := subTo 255
theorem subT_length : subT.length = 256 := subTo_length 255

set_option maxRecDepth 10000 in
set_option maxHeartbeats 1000000 in
theorem substitutes_any (w : World) :
    Calls Tryd.prog 69 #[] w fun e w' => e = .returned (.agg (bcells subT).toArray) ∧ Below w.heap.size w w' := by
  have hb1 : ∀ (W : World), BB (W.alloc (.cells (bcells (zeros 256)).toArray 90)) W.heap.size 90 (zeros 256) := fun W => BB.new W _ _
  have HB1 := Lib.hid hb1
  clear hb1
  have c0 : ∀ W : World, (W.alloc (.cells (bcells (zeros 256)).toArray 90)).cell? ⟨W.heap.size, 0, none⟩ = some (.int .u8 0) := fun W => (HB1.out W).at_ (zeros_at 256 0 (by omega))
  have f0 : ∀ W : World, (W.alloc (.cells (bcells (zeros 256)).toArray 90)).frozen? ⟨W.heap.size, 0, none⟩ = false := fun W => (HB1.out W).free 0
  have d0 := c0 (w.alloc (.cells (bcells (zeros 256)).toArray 90))
  have g0 := f0 (w.alloc (.cells (bcells (zeros 256)).toArray 90))
  rw [World.size_alloc] at d0 g0
  clear c0 f0
  go_enter Tryd.func69, Tryd.ntmps69
  go_wp2_with (refine wpList_allocB zero256 rfl rfl ?_)
  have hp0 : BB ((w.alloc (.cells (bcells (zeros 256)).toArray 90)).alloc (.cells ((bcells (zeros 256)).set 0 (.int .u8 1)).toArray 90)) (w.heap.size + 1) 90 (powTo 0) := by
    unfold BB
    rw [heap_alloc2_new, ← powTo_zero, bcells_setA]
    rfl
  have HP0 := Lib.hid hp0
  clear hp0 d0 g0
  go_loopw [6] (fun i wr => ∃ n : Nat, i = .int .i64 n ∧ n ≤ 255 ∧ BB wr (w.heap.size + 1) 90 (powTo n) ∧ BB wr w.heap.size 90 (zeros 256) ∧ Below w.heap.size w wr) (fun i _ => 255 - (intOf i).toNat)
  case atStart => exact ⟨0, rfl, by omega, HP0.out, heap_alloc2_old _ _ _, ((Below.refl _ _).alloc (Nat.le_refl _) _).alloc (by simp) _⟩
  case round =>
    obtain ⟨n, rfl, hn, hP, hR, hbel⟩ := hrel
    by_cases hlt : n < 255
    · obtain ⟨q, hq⟩ : ∃ q, q = n + 1 := ⟨_, rfl⟩
      have c1 := hP.at_ (powTo_at n n (by omega))
      rw [if_pos (Nat.le_refl _)] at c1
      have c2 := hP.at_ (powTo_at n q (by omega))
      have f2 := hP.free q
      have w1 : IntKind.i64.wrap ((n : Int) + 1) = (q : Int) := by rw [IntKind.wrap_i64]; omega
      have b1 : (n : Int) < 256 := by omega
      have b2 : (q : Int) < 256 := by omega
      have hki : (n : Int) < 255 := by omega
      have hx := xor_u8 (pw n) (dbl (pw n))
      rw [show pw n ^^^ dbl (pw n) = pw (n + 1) from rfl] at hx
      have hs : (powTo n).set q (pw (n + 1)) = powTo (n + 1) := by rw [hq]; exact powTo_set n
      have HN := Lib.hid (fun x hx => hs ▸ hP.drew.set_ q (pw (n + 1)) x hx)
      have hd : ∀ W, Calls Tryd.prog 82 #[.int .u8 ((pw n).toNat : Int)] W fun e w' => e = .returned (.int .u8 ((dbl (pw n)).toNat : Int)) ∧ w' = W := fun W => (double_any (pw n) W).mono fun _ _ h => ⟨h.1, h.2.symm⟩
      have HD := Lib.hid hd
      have HR := Lib.hid hR
      have HB := Lib.hid hbel
      clear hd hR hbel hP hq hs
      generalize (dbl (pw n)).toNat = y at *
      generalize (pw (n + 1)).toNat = z at *
      generalize (pw n).toNat = x at *
      go_wp2
      go_still_tail 11, (by kernel_rfl)
      still_call (HD.out _)
      repeat still_step
      refine wpStill_nil ?_
      clear w1
      change wpList _ _ _ _ _ wr.drew
      go_wp2
      go_roundw
      case rel => exact ⟨n + 1, by go_num, by omega, HN.out _ rfl, HR.out.drew.far (by simp) _, HB.out.drew.setCell (by simp) _⟩
      case measure => simp [intOf]; omega
    · obtain rfl : n = 255 := by omega
      have HP := Lib.hid hP
      have HR := Lib.hid hR
      have HB := Lib.hid hbel
      clear hR hbel hP
      go_wp2_with (first
        | refine wpList_allocB zero256 rfl rfl ?_
        | (go_at_call 83; refine (mixBits_any 0 _).mono ?_; rintro e w1 ⟨rfl, rfl⟩))
      have hp0 : BB (wr.alloc (.cells ((bcells (zeros 256)).set 0 (.int .u8 ((mixB 0).toNat : Int))).toArray 90)) wr.heap.size 90 (subTo 0) := by
        unfold BB
        rw [heap_alloc_new, subTo, bcells_setA]
      have HT0 := Lib.hid hp0
      have hbs := HB.out.size
      have hps := HP.out.lt
      clear hp0
      obtain ⟨w2, rfl⟩ : ∃ w2 : World, w2 = wr := ⟨_, rfl⟩
      go_loopw [23] (fun i wv => ∃ n : Nat, i = .int .i64 n ∧ n ≤ 255 ∧ BB wv w2.heap.size 90 (subTo n) ∧ BB wv (w.heap.size + 1) 90 (powTo 255) ∧ BB wv w.heap.size 90 (zeros 256) ∧ Below w.heap.size w wv) (fun i _ => 255 - (intOf i).toNat)
      case atStart => exact ⟨0, rfl, by omega, HT0.out, HP.out.alloc _, HR.out.alloc _, HB.out.alloc hbs _⟩
      case round =>
        obtain ⟨n, rfl, hn, hT, hP, hR, hbel⟩ := hrel
        by_cases hlt : n < 255
        · obtain ⟨q, hq⟩ : ∃ q, q = 255 - n := ⟨_, rfl⟩
          have c1 := hP.at_ (powTo_at 255 n (by omega))
          rw [if_pos (by omega)] at c1
          have c2 := hP.at_ (powTo_at 255 q (by omega))
          rw [if_pos (by omega)] at c2
          have hxl := (pw n).toNat_lt
          obtain ⟨u, hu⟩ : ∃ u, (subTo n)[(pw n).toNat]? = some u := ⟨_, List.getElem?_eq_getElem (by rw [subTo_length]; exact hxl)⟩
          have c3 := hT.at_ hu
          have f3 := hT.free (pw n).toNat
          have w1 : IntKind.i64.wrap (255 - (n : Int)) = (q : Int) := by rw [IntKind.wrap_i64]; omega
          have b1 : (n : Int) < 256 := by omega
          have b2 : (q : Int) < 256 := by omega
          have b3 : ((pw n).toNat : Int) < 256 := by omega
          have hki : (n : Int) < 255 := by omega
          have hs : (subTo n).set (pw n).toNat (mixB (pw q)) = subTo (n + 1) := by rw [hq]; rfl
          have HN := Lib.hid (fun x hx => hs ▸ hT.drew.set_ (pw n).toNat (mixB (pw q)) x hx)
          have hd : ∀ W, Calls Tryd.prog 83 #[.int .u8 ((pw q).toNat : Int)] W fun e w' => e = .returned (.int .u8 ((mixB (pw q)).toNat : Int)) ∧ w' = W := fun W => (mixBits_any (pw q) W).mono fun _ _ h => ⟨h.1, h.2.symm⟩
          have HD := Lib.hid hd
          have HR := Lib.hid hR
          have HP2 := Lib.hid hP
          have HB2 := Lib.hid hbel
          clear hd hR hbel hP hq hs hT hu hxl
          generalize (mixB (pw q)).toNat = z at *
          generalize (pw q).toNat = y at *
          generalize (pw n).toNat = x at *
          go_wp2
          go_still_tail 9, (by kernel_rfl)
          still_call (HD.out _)
          repeat still_step
          refine wpStill_nil ?_
          clear w1
          change wpList _ _ _ _ _ wr.drew
          go_wp2
          go_roundw
          case rel => exact ⟨n + 1, by go_num, by omega, HN.out _ rfl, HP2.out.drew.far (by simp; omega) _, HR.out.drew.far (by simp; omega) _, HB2.out.drew.setCell (by simp; omega) _⟩
          case measure => simp [intOf]; omega
        · obtain rfl : n = 255 := by omega
          have HT := Lib.hid hT
          have HR2 := Lib.hid hR
          have HB2 := Lib.hid hbel
          clear hR hbel hP hT
          go_wp2_with (first
            | refine wpList_loadB arr256 rfl (.tmp 3) rfl HT.out subT_length rfl ?_
            | (refine wpList_storeB arr256 rfl (.tmp 0) (.tmp 36) rfl HR2.out (zeros_length 256) subT_length rfl rfl ?_; intro w3 h3 hg3))
          exact bodyPost_ret (results_B arr256 rfl _ h3 subT_length rfl) rfl ⟨rfl, HB2.out.trans (below_of_grown hg3 (Nat.le_refl _) HB2.out.size)⟩
end Go.Proofs.YtaanhancjmigdaaDoor
namespace Go.Proofs.YtaanhancjmigdaaDoor
open Go.RowKit

def piece (l : List UInt8) (off n : Nat) : List UInt8 := (l.drop off).take n
theorem piece_length (l : List UInt8) (off n : Nat) (h : off + n ≤ l.length) : (piece l off n).length = n := by
  rw [piece, List.length_take, List.length_drop]; omega
theorem piece_at (l : List UInt8) (off n j : Nat) (hj : j < n) : (piece l off n)[j]? = l[off + j]? := by
  rw [piece, List.getElem?_take_of_lt hj, List.getElem?_drop]
def patch (l : List UInt8) (off : Nat) (p : List UInt8) : List UInt8 := l.take off ++ p ++ l.drop (off + p.length)
theorem patch_length (l : List UInt8) (off : Nat) (p : List UInt8) (h : off + p.length ≤ l.length) : (patch l off p).length = l.length := by
  rw [patch, List.length_append, List.length_append, List.length_take, List.length_drop]; omega
theorem bcells_patch (l : List UInt8) (off : Nat) (p : List UInt8) : bcells (patch l off p) = (bcells l).take off ++ bcells p ++ (bcells l).drop (off + (bcells p).length) := by
  rw [patch, bcells_append, bcells_append, bcells_take, bcells_drop, bcells_length]

section
variable {P : Program} {w : World} {ops : Array Oper} {rest : List Oper} {o : Oper} {a : Act} {Q : Exit → Act → World → Prop} {ty e t : TypeId} {n g off : Nat} {l p : List UInt8}

theorem run_loadP (hT : ArrT P ty e n) (h : BB w g t l) (hl : off + n ≤ l.length) : (loadVar ty ⟨g, off, none⟩).run P w = .ok (.agg (bcells (piece l off n)).toArray) w := by
  have hlen := piece_length l off n hl
  have hc : (loadCells ⟨g, off, none⟩ (bcells (piece l off n)).length).run P w = .ok (bcells (piece l off n)).toArray w :=
    run_loadCells_list (P := P) w ⟨g, off, none⟩ (bcells (piece l off n)) (fun j v hv => by
      rw [bcells_at] at hv
      obtain ⟨u, hu, rfl⟩ := Option.map_eq_some_iff.1 hv
      have hj : j < n := by rw [← hlen]; exact (List.getElem?_eq_some_iff.1 hu).1
      rw [piece_at l off n j hj] at hu
      rw [Addr.add_lit]
      exact h.at_ hu)
  rw [bcells_length, hlen] at hc
  have hi := hT.hi
  cases hq : P.info? ty with
  | none => simp [hq] at hi
  | some i =>
    have hs : i.size = n := by simpa [hq] using hi
    have hagg : (isAgg ty).run P w = .ok true w := by
      unfold isAgg
      rw [Sem.run_bind, run_underlying hT.ht w]
      rfl
    simp [loadVar, Sem.run_bind, hagg, sizeOf, typeInfo, hq, hs, hc]

theorem wpList_loadP (hT : ArrT P ty e n) (hgd : o.guard = none) (x : Operand) (ho : o.op = .load ty x) (h : BB w g t l) (hl : off + n ≤ l.length) (hx : a.eval x = .pointer (some ⟨g, off, none⟩))
    (hk : wpList P ops Q rest (a.put o.dst (.agg (bcells (piece l off n)).toArray)) w) : wpList P ops Q (o :: rest) a w := by
  refine wpList_plain hgd fun K hK => ?_
  unfold Oper.wp execOp
  simp only [ho, hx, Instr.loadAt, Instr.sureAddr, Sem.run_bind, Sem.run_pure, Result.andThen_ok, run_loadP hT h hl]
  exact hK _ _ hk

theorem still_loadB {next : Act → Prop} (hT : ArrT P ty e n) (x : Operand) (ho : o.op = .load ty x) (h : BB w g t l) (hl : l.length = n) (hx : a.eval x = .pointer (some ⟨g, 0, none⟩))
    (hk : next (a.put o.dst (.agg (bcells l).toArray))) : o.still P a w next := by
  have hp : piece l 0 n = l := by rw [piece, List.drop_zero, List.take_of_length_le (by omega)]
  have hr := run_loadP hT h (off := 0) (by omega)
  rw [hp] at hr
  unfold Oper.still execOp
  simp only [ho, hx, Instr.loadAt, Instr.sureAddr, Sem.run_bind, Sem.run_pure, Result.andThen_ok, hr]
  exact ⟨rfl, hk⟩

theorem BB.patch (h : BB w g t l) (off : Nat) (p : List UInt8) : BB (w.setRow g ((bcells l).take off ++ bcells p ++ (bcells l).drop (off + (bcells p).length)).toArray) g t (patch l off p) := by
  unfold BB
  rw [bcells_patch]
  exact setRow_heap w g _ _ t _ h
theorem run_storeP (hT : ArrT P ty e n) (h : BB w g t l) (hp : p.length = n) (hl : off + n ≤ l.length) :
    (storeVar ty ⟨g, off, none⟩ (.agg (bcells p).toArray)).run P w = .ok () (w.setRow g ((bcells l).take off ++ bcells p ++ (bcells l).drop (off + (bcells p).length)).toArray) := by
  have hs := run_storeCells_at P g off t (bcells p) 0 _ w h (by rw [bcells_length, bcells_size]; omega) (bcells_one p)
  have hi := hT.hi
  cases hq : P.info? ty with
  | none => simp [hq] at hi
  | some i =>
    have hsz : i.size = n := by simpa [hq] using hi
    have hne : (bcells p).length = i.size := by rw [bcells_length, hp, hsz]
    simp only [Nat.add_zero] at hs
    simp [storeVar, sizeOf, typeInfo, hq, Value.cells, hne]
    rw [hs, hne, List.append_assoc]
theorem wpList_storeP (hT : ArrT P ty e n) (hgd : o.guard = none) (x y : Operand) (ho : o.op = .store ty x y) (h : BB w g t l) (hl : off + n ≤ l.length) (hp : p.length = n) (hx : a.eval x = .pointer (some ⟨g, off, none⟩)) (hy : a.eval y = .agg (bcells p).toArray)
    (hk : ∀ w', BB w' g t (patch l off p) → w.grownBy w' (some g) → wpList P ops Q rest (a.put o.dst undef) w') : wpList P ops Q (o :: rest) a w := by
  refine wpList_plain hgd fun K hK => ?_
  unfold Oper.wp execOp
  simp only [ho, hx, hy, Instr.storeAt, Instr.sureAddr, Sem.run_bind, Sem.run_pure, Result.andThen_ok, run_storeP hT h hp hl]
  exact hK _ _ (hk _ (h.patch off p) (grown_setRow _ _ _))
end
end Go.Proofs.YtaanhancjmigdaaDoor
