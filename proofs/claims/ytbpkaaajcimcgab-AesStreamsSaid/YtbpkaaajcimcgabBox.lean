/- The walk of boxes of the document's answer. -/
import Derived.Test.YtbpkaaajcimcgabTms
namespace Go.Proofs.Ytbpkaaajcimcgab
open Go.RowKit

theorem built256 : Try.prog.built 38 [] = some (bcells (zeros 256)).toArray := by kernel_rfl
theorem wpList_build0 {P : Program} {ops : Array Oper} {rest : List Oper} {o : Oper} {a : Act} {w : World} {Q : Exit → Act → World → Prop} {t : TypeId} {cs : Array Value} (hb : P.built t [] = some cs) (hg : o.guard = none) (ho : o.op = .build t #[])
    (h : wpList P ops Q rest (a.put o.dst (.agg cs)) w) : wpList P ops Q (o :: rest) a w := by
  refine wpList_build hg t #[] ho ?_ ?_
  · simp [hb]
  · simpa [hb] using h
theorem and_one (a : Nat) (ha : a < 4611686018427387904) : bits .and .i64 (a : Int) 1 = ((a % 2 : Nat) : Int) := by
  show IntKind.i64.wrap ((BitVec.ofInt 64 (a : Int) &&& BitVec.ofInt 64 (1 : Int)).toNat : Int) = _
  rw [BitVec.toNat_and, ofInt_i64 a ha, show (BitVec.ofInt 64 (1 : Int)).toNat = 1 from rfl, Nat.and_one_is_mod, IntKind.wrap_i64]
  omega
theorem times_at (a k : Nat) (ha : a < 256) (hk : k < 256) (w : World) : Calls Try.prog 22 #[.int .u8 (a : Int), .int .u8 (k : Int)] w fun e w' => e = .returned (.int .u8 ((tms (UInt8.ofNat a) (UInt8.ofNat k)).toNat : Int)) ∧ w = w' := by
  have h := times_any (UInt8.ofNat a) (UInt8.ofNat k) w
  rw [show (UInt8.ofNat a).toNat = a by rw [UInt8.toNat_ofNat']; omega, show (UInt8.ofNat k).toNat = k by rw [UInt8.toNat_ofNat']; omega] at h
  exact h
theorem bitTo_lt (v : UInt8) (i : Nat) : ∀ k, bitTo v i k < 2
  | 0 => by rw [bitTo]; omega
  | k + 1 => by
    rw [bitTo]
    exact Nat.xor_lt_two_pow (n := 1) (bitTo_lt v i k) (by omega)
theorem div_pow (x i : Nat) : (x : Int) / 2 ^ i = ((x / 2 ^ i : Nat) : Int) := by simp
theorem set_same {α : Type} (l : List α) (i : Nat) (x : α) (h : l[i]? = some x) : l.set i x = l := by
  apply List.ext_getElem?
  intro j
  rw [List.getElem?_set]
  by_cases e : i = j
  · subst e
    rw [if_pos rfl, if_pos (List.getElem?_eq_some_iff.1 h).1, h]
  · rw [if_neg e]
theorem out_val (v : UInt8) (i b : Nat) (hi : i < 8) (hb : b < 2) (e : b = bitTo v i 5) : (((outTo v i).toNat : Int) + wrap64 ((b : Int) * 2 ^ i)) % 256 = ((outTo v (i + 1)).toNat : Int) := by
  have h2 : b * 2 ^ i < 256 := by
    have : 2 ^ i ≤ 2 ^ 7 := Nat.pow_le_pow_right (by decide) (by omega)
    have h3 : b * 2 ^ i ≤ 1 * 2 ^ 7 := Nat.mul_le_mul (by omega) this
    omega
  have hc : (b : Int) * 2 ^ i = ((b * 2 ^ i : Nat) : Int) := by simp
  rw [hc, IntWalk.wrap64_in _ ⟨by omega, by omega⟩, outTo, ← e, UInt8.toNat_add, UInt8.toNat_ofNat']
  omega
set_option maxRecDepth 10000 in
set_option maxHeartbeats 2000000 in
theorem boxes_any (w : World) : Calls Try.prog 21 #[] w fun e w' => e = .returned (.agg (bcells boxT).toArray) ∧ Below w.heap.size w w' := by
  have HZ := Lib.hid (zeros_length 256)
  have h1 : BB ((w.alloc (.cells (bcells (zeros 256)).toArray 38)).alloc (.cells (bcells (zeros 256)).toArray 38)) (w.heap.size + 1) 38 (zeros 256) := heap_alloc2_new _ _ _
  have h0 : BB ((w.alloc (.cells (bcells (zeros 256)).toArray 38)).alloc (.cells (bcells (zeros 256)).toArray 38)) w.heap.size 38 (zeros 256) := heap_alloc2_old _ _ _
  have H1 := Lib.hid h1
  have H0 := Lib.hid h0
  clear h1 h0
  go_enter Try.func21, Try.ntmps21
  go_wp2_with (first
    | refine wpList_allocB zero256 rfl rfl ?_
    | refine wpList_build0 built256 rfl rfl ?_
    | (refine wpList_storeB arr256 rfl (.tmp 1) (.tmp 9) rfl H1.out HZ.out HZ.out (by go_simp) rfl ?_; intro w1 h1 hg1; have HO1 := Lib.hid h1; have HR1 := Lib.hid (H0.out.grown hg1 (by omega)); have HB1 := Lib.hid ((((Below.refl _ _).alloc (Nat.le_refl _) _).alloc (by simp) _).trans (below_of_grown hg1 (Nat.le_succ w.heap.size) (by simp; omega))); clear h1 hg1))
  go_loopw [2] (fun i wr => ∃ a : Nat, i = .int .i64 a ∧ a ≤ 256 ∧ BB wr (w.heap.size + 1) 38 (mix boxT (zeros 256) a) ∧ BB wr w.heap.size 38 (zeros 256) ∧ Below w.heap.size w wr) (fun i _ => 256 - (intOf i).toNat)
  case atStart => exact ⟨0, rfl, by omega, by rw [mix_zero]; exact HO1.out, HR1.out, HB1.out⟩
  case round =>
    obtain ⟨a, rfl, ha, hO, hR, hbel⟩ := hrel
    have hll : boxT.length = (zeros 256).length := by rw [boxT_length, zeros_length]
    have HO := Lib.hid hO
    have HR := Lib.hid hR
    have HB := Lib.hid hbel
    clear hO hR hbel
    by_cases hlt : a < 256
    · have hai : (a : Int) < 256 := by omega
      have wa : IntKind.u8.wrap (a : Int) = (a : Int) := by rw [show IntKind.u8.wrap (a : Int) = (a : Int) % 256 from rfl]; omega
      go_wp2
      obtain ⟨wo, rfl⟩ : ∃ wo : World, wo = wr := ⟨_, rfl⟩
      go_loop [3, 4] (fun v j => ∃ k : Nat, k ≤ 256 ∧ j = .int .i64 k ∧ v = .int .u8 ((invTo (UInt8.ofNat a) k).toNat : Int)) (fun _ j => 256 - (intOf j).toNat)
      case atStart => exact ⟨0, by omega, rfl, rfl⟩
      case round =>
        obtain ⟨k, hk, rfl, rfl⟩ := hrel
        by_cases hlk : k < 256
        · have hki : (k : Int) < 256 := by omega
          have wk : IntKind.u8.wrap (k : Int) = (k : Int) := by rw [show IntKind.u8.wrap (k : Int) = (k : Int) % 256 from rfl]; omega
          have HT := Lib.hid (times_at a k hlt hlk)
          by_cases h1 : tms (UInt8.ofNat a) (UInt8.ofNat k) = 1
          · have hv : (invTo (UInt8.ofNat a) (k + 1)).toNat = k := by rw [invTo, if_pos h1, UInt8.toNat_ofNat']; omega
            have HV := Lib.hid hv
            rw [h1] at HT
            clear hv h1
            go_wp2_with (go_at_call 22; refine (HT.out _).mono ?_; rintro e w2 ⟨rfl, rfl⟩)
            go_round
            case rel => exact ⟨k + 1, by omega, by go_num, by rw [HV.out]⟩
            case measure => simp [intOf]; omega
          · have hv : invTo (UInt8.ofNat a) (k + 1) = invTo (UInt8.ofNat a) k := by rw [invTo, if_neg h1]
            have HV := Lib.hid hv
            have hne : (((tms (UInt8.ofNat a) (UInt8.ofNat k)).toNat : Int) == 1) = false := by
              rw [beq_eq_false_iff_ne]
              intro he
              exact h1 (UInt8.toNat_inj.1 (by show _ = 1; omega))
            clear hv h1
            generalize (tms (UInt8.ofNat a) (UInt8.ofNat k)).toNat = z at *
            go_wp2_with (go_at_call 22; refine (HT.out _).mono ?_; rintro e w2 ⟨rfl, rfl⟩)
            go_round
            case rel => exact ⟨k + 1, by omega, by go_num, by rw [HV.out]⟩
            case measure => simp [intOf]; omega
        · obtain rfl : k = 256 := by omega
          obtain ⟨v, hv⟩ : ∃ v, v = invTo (UInt8.ofNat a) 256 := ⟨_, rfl⟩
          rw [← hv, show ((256 : Nat) : Int) = 256 from rfl]
          have HV := Lib.hid hv
          clear hv
          go_wp2
          go_loopw [5] (fun j wr => ∃ i : Nat, j = .int .i64 i ∧ i ≤ 8 ∧ BB wr (w.heap.size + 1) 38 ((mix boxT (zeros 256) a).set a (outTo v i)) ∧ BB wr w.heap.size 38 (zeros 256) ∧ Below w.heap.size w wr) (fun j _ => 8 - (intOf j).toNat)
          case atStart =>
            refine ⟨0, rfl, by omega, ?_, HR.out, HB.out⟩
            rw [outTo, set_same _ _ _ (by rw [mix_get _ _ hll _ _ (Nat.le_refl _), zeros_at 256 a hlt])]
            exact HO.out
          case round =>
            obtain ⟨i, rfl, hi, hO, hR, hbel⟩ := hrel
            by_cases hli : i < 8
            · have hii : (i : Int) < 8 := by omega
              go_wp2
              have w99 : (99 : Int) / 2 ^ i = ((99 / 2 ^ i : Nat) : Int) := div_pow 99 i
              rw [w99, and_one _ (by have := Nat.div_le_self 99 (2 ^ i); omega), show 99 / 2 ^ i % 2 = bitTo v i 0 from rfl]
              clear w99
              have HO2 := Lib.hid hO
              have HR2 := Lib.hid hR
              have HB2 := Lib.hid hbel
              clear hO hR hbel
              obtain ⟨wq, rfl⟩ : ∃ wq : World, wq = wr := ⟨_, rfl⟩
              go_loop [6, 7] (fun b j => ∃ k : Nat, k ≤ 5 ∧ j = .int .i64 k ∧ b = .int .i64 ((bitTo v i k : Nat) : Int)) (fun _ j => 5 - (intOf j).toNat)
              case atStart => exact ⟨0, by omega, rfl, rfl⟩
              case round =>
                obtain ⟨k, hk, rfl, rfl⟩ := hrel
                have hb2 := bitTo_lt v i k
                by_cases hlk : k < 5
                · have hki : (k : Int) < 5 := by omega
                  obtain ⟨f, hf⟩ : ∃ f, f = fromOf i k := ⟨_, rfl⟩
                  have hf8 : f < 8 := by rw [hf, fromOf]; split <;> omega
                  obtain ⟨r, hr⟩ : ∃ r, r = v.toNat / 2 ^ f := ⟨_, rfl⟩
                  have hvl := v.toNat_lt
                  have hrl : r < 256 := by rw [hr]; have := Nat.div_le_self v.toNat (2 ^ f); omega
                  have w1 : (v.toNat : Int) / 2 ^ f = (r : Int) := by rw [hr]; exact div_pow _ _
                  have w2 := and_one r (by omega)
                  obtain ⟨s, hs⟩ : ∃ s, s = r % 2 := ⟨_, rfl⟩
                  rw [← hs] at w2
                  have w3 := xor_i64 (bitTo v i k) s (by omega) (by omega)
                  have HBT := Lib.hid (show bitTo v i (k + 1) = bitTo v i k ^^^ s by rw [bitTo, hs, hr, hf])
                  obtain ⟨x, hx⟩ : ∃ x, x = bitTo v i k ^^^ s := ⟨_, rfl⟩
                  rw [← hx] at w3 HBT
                  clear hx hs hr
                  generalize bitTo v i k = b at *
                  by_cases h0 : k = 0
                  · have hfi : f = i := by rw [hf, fromOf, if_neg (by omega)]
                    subst hfi
                    have h0i : ¬ (0 : Int) < (k : Int) := by omega
                    clear hf
                    clear h0
                    go_wp2
                    go_round
                    case rel => exact ⟨k + 1, by omega, by go_num, by rw [HBT.out]⟩
                    case measure => simp [intOf]; omega
                  · have hfi : f = (i + 3 + k) % 8 := by rw [hf, fromOf, if_pos (by omega)]
                    have wf : ((i : Int) + 3 + (k : Int)) % 8 = (f : Int) := by omega
                    have h0i : (0 : Int) < (k : Int) := by omega
                    clear hf hfi
                    clear h0
                    go_wp2
                    go_round
                    case rel => exact ⟨k + 1, by omega, by go_num, by rw [HBT.out]⟩
                    case measure => simp [intOf]; omega
                · obtain rfl : k = 5 := by omega
                  obtain ⟨b, hb⟩ : ∃ b, b = bitTo v i 5 := ⟨_, rfl⟩
                  rw [← hb] at hb2
                  rw [← hb]
                  have HBB := Lib.hid hb
                  obtain ⟨u, hu⟩ : ∃ u, u = outTo v i := ⟨_, rfl⟩
                  have hul := u.toNat_lt
                  have hcu : ((mix boxT (zeros 256) a).set a (outTo v i))[a]? = some u := by
                    rw [List.getElem?_set_self (by rw [mix_length _ _ _ (by rw [boxT_length, zeros_length]), zeros_length]; exact hlt), hu]
                  have c1 := HO2.out.at_ hcu
                  have f1 := HO2.out.free a
                  clear hb hcu
                  go_wp2
                  have hval := out_val v i b hli hb2 HBB.out
                  have hON := HO2.out.set_ a (outTo v (i + 1)) _ hval
                  rw [List.set_set] at hON
                  have HON := Lib.hid hON
                  clear hval hON
                  go_roundw
                  case rel => exact ⟨i + 1, by go_num, by omega, HON.out, HR2.out.far (by simp) _, HB2.out.setCell (Nat.le_succ _) _⟩
                  case measure => simp [intOf]; omega
            · obtain rfl : i = 8 := by omega
              have hba : boxT[a]? = some (outTo v 8) := by
                rw [boxT, List.getElem?_map, List.getElem?_range hlt, HV.out]
                rfl
              rw [mix_set boxT (zeros 256) hll a _ hba] at hO
              have HO2 := Lib.hid hO
              have HR2 := Lib.hid hR
              have HB2 := Lib.hid hbel
              clear hO hR hbel hba
              go_wp2
              go_roundw
              case rel => exact ⟨a + 1, by go_num, by omega, HO2.out, HR2.out, HB2.out⟩
              case measure => simp [intOf]; omega
    · obtain rfl : a = 256 := by omega
      have hO := HO.out
      rw [mix_all boxT (zeros 256) (k := 256) (by rw [zeros_length]; exact Nat.le_refl _) (by rw [boxT_length]; exact Nat.le_refl _)] at hO
      have HO2 := Lib.hid hO
      clear hO
      go_wp2_with (first
        | refine wpList_loadB arr256 rfl (.tmp 1) rfl HO2.out boxT_length rfl ?_
        | (refine wpList_storeB arr256 rfl (.tmp 0) (.tmp 64) rfl HR.out HZ.out boxT_length rfl rfl ?_; intro w3 h3 hg3))
      exact bodyPost_ret (results_B arr256 rfl _ h3 boxT_length rfl) rfl ⟨rfl, HB.out.trans (below_of_grown hg3 (Nat.le_refl _) HB.out.size)⟩
end Go.Proofs.Ytbpkaaajcimcgab
