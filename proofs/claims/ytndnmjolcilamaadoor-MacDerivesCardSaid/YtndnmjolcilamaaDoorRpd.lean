/- The document's Pad. -/
import Derived.Test.YtndnmjolcilamaaDoorRq
import Derived.Test.YtndnmjolcilamaaDoorSpk
namespace Go.Proofs.YtndnmjolcilamaaDoor
open Go.RowKit

theorem zeros_snoc (k : Nat) : zeros k ++ [0] = zeros (k + 1) := by rw [zeros, zeros, List.replicate_succ']
theorem ofNat_eq8 {a b : Nat} (h : a % 256 = b % 256) : UInt8.ofNat a = UInt8.ofNat b := by
  apply UInt8.toNat_inj.1
  rw [UInt8.toNat_ofNat', UInt8.toNat_ofNat']
  exact h
theorem len_bytes (c : Nat) (hc : c < 1000000) : lenBytes c = [UInt8.ofNat (8 * c / 72057594037927936), UInt8.ofNat (8 * c / 281474976710656), UInt8.ofNat (8 * c / 1099511627776), UInt8.ofNat (8 * c / 4294967296), UInt8.ofNat (8 * c / 16777216), UInt8.ofNat (8 * c / 65536), UInt8.ofNat (8 * c / 256), UInt8.ofNat (8 * c)] := by
  have h0 : 8 * c / 4294967296 = 0 := by omega
  have h1 : 8 * c % 4294967296 = 8 * c := by omega
  rw [lenBytes, h0, h1, bytesOf, bytesOf, ofNat_toNat32 (8 * c) (by omega), ofNat_toNat32 0 (by omega)]
  simp only [List.cons_append, List.nil_append]
  rw [ofNat_eq8 (a := 8 * c / 72057594037927936) (b := 0 / 16777216) (by omega), ofNat_eq8 (a := 8 * c / 281474976710656) (b := 0 / 65536) (by omega), ofNat_eq8 (a := 8 * c / 1099511627776) (b := 0 / 256) (by omega)]

def lenV : Value → Nat
  | .slice _ q _ => q
  | _ => 0
theorem lenV_slice (A : Option Addr) (q c : Nat) : lenV (.slice A q c) = q := rfl
theorem toNat_of (a : Nat) : ((a : Int) % 256) = ((UInt8.ofNat a).toNat : Int) := by
  rw [UInt8.toNat_ofNat']
  omega

theorem byte_of {n N : Nat} (hn : n < 1000000) (hN : N = 8 * n) (P : Nat) (hP : 65536 ≤ P) : ((N : Int) / (P : Int)) = ((UInt8.ofNat (8 * n / P)).toNat : Int) := by
  have h : 8 * n / P < 256 := by
    rw [Nat.div_lt_iff_lt_mul (by omega)]
    omega
  subst hN
  rw [UInt8.toNat_ofNat', Nat.mod_eq_of_lt h]
  simp

set_option maxRecDepth 10000 in
set_option maxHeartbeats 1000000 in
theorem refPad_any (n cap : Nat) (A : Option Addr) (l : List UInt8) (w : World) (hn : l.length = n) (hc : n < 1000000) (h : RB w w.heap.size A l cap) :
    Calls Tryd.prog 61 #[.slice A n cap] w fun e w' => ∃ v, e = .returned v ∧ OwnB w' w.heap.size 5 v (l ++ padBytes n) ∧ w.grownBy w' none := by
  have HN := Lib.hid hn
  have HC := Lib.hid hc
  have HL := Lib.hid h
  clear h hn
  go_enter Tryd.func61, Tryd.ntmps61
  go_wp2_with (first
    | (at_builtin; refine wpList_appB byteT rfl (.tmp 6) (.tmp 7) rfl (OwnB.new0 w w.heap.size _ (Nat.le_refl _)) (HL.out.alloc (Nat.le_refl _) _) rfl (by rw [HN.out]; rfl) (by rw [HN.out]; simp; omega) (by simp) ?_; intro v3 w3 hown3 hg3 _ _; rw [List.nil_append] at hown3; have O3 := Lib.hid hown3; have G3 := Lib.hid (none_new (grown_alloc w _ none) hg3 (Nat.le_refl _)); clear hown3 hg3)
    | (at_builtin; refine wpList_appB byteT rfl (.tmp 8) (.tmp 9) rfl (O3.out.alloc _) (RB.new1 w3 5 128 128 rfl (w3.heap.size + 1) (Nat.lt_succ_self _)) rfl rfl (by rw [HN.out]; simp; omega) (by rw [World.size_alloc]; have := G3.out.size; omega) ?_; intro v4 w4 hown4 hg4 _ _; have O4 := Lib.hid hown4; have G4 := Lib.hid (show w.grownBy w4 none from by
        rcases hv : v3.ownBlock with _ | g
        · rw [hv] at hg4; exact grown_trans' (grown_trans' G3.out (grown_alloc _ _ none)) hg4
        · rw [hv] at hg4; exact none_new (grown_trans' G3.out (grown_alloc _ _ none)) hg4 (O3.out.lt g hv).1); clear hown4 hg4))
  obtain ⟨A4, c4, hv4, -, -⟩ := O4.out.shape
  rw [List.length_append, HN.out, show ([128] : List UInt8).length = 1 from rfl] at hv4
  have O4' := O4.out
  rw [hv4] at O4' ⊢
  go_loopw [3] (fun v wr => ∃ (k q : Nat) (A5 : Option Addr) (c5 : Nat) (x : List UInt8), v = .slice A5 q c5 ∧ q = n + 1 + k ∧ x = l ++ 128 :: zeros k ∧ x.length = q ∧ OwnB wr w.heap.size 5 (.slice A5 q c5) x ∧ w.grownBy wr none ∧ k ≤ gapOf n) (fun v _ => n + 100 - lenV v)
  case atStart => exact ⟨0, n + 1, A4, c4, l ++ [128], rfl, rfl, rfl, by rw [List.length_append, HN.out]; rfl, O4', G4.out, Nat.zero_le _⟩
  case round =>
    obtain ⟨k, q, A5, c5, x, rfl, hq, hx, hxl, ho, hg, hk⟩ := hrel
    have hmd : (q : Int).tmod 64 = ((q % 64 : Nat) : Int) := by rw [Int.tmod_eq_emod_of_nonneg (by omega)]; omega
    by_cases hlt : k < gapOf n
    · have hne : (((q % 64 : Nat) : Int) == 56) = false := by
        rw [beq_eq_false_iff_ne]
        rw [gapOf] at hlt
        omega
      have HQ := Lib.hid (show q < n + 70 by rw [gapOf] at hlt; omega)
      have HX := Lib.hid (show x ++ [0] = l ++ 128 :: zeros (k + 1) by rw [hx, List.append_assoc, List.cons_append, zeros_snoc])
      have HXL := Lib.hid hxl
      have HO := Lib.hid ho
      have HG := Lib.hid hg
      have HK := Lib.hid (show k + 1 ≤ gapOf n by omega)
      have HQE := Lib.hid (show q + 1 = n + 1 + (k + 1) by omega)
      clear hx hxl ho hg hk hlt hq
      generalize q % 64 = m at hmd hne
      go_wp2_with (at_builtin; refine wpList_appB byteT rfl (.tmp 15) (.tmp 16) rfl (HO.out.alloc _) (RB.new1 wr 5 0 0 rfl (wr.heap.size + 1) (Nat.lt_succ_self _)) rfl rfl (by rw [HXL.out]; have := HQ.out; have := HC.out; simp; omega) (by rw [World.size_alloc]; have := HG.out.size; omega) ?_; intro v6 w6 hown6 hg6 _ _; rw [HX.out] at hown6; have O6 := Lib.hid hown6; have G6 := Lib.hid (show w.grownBy w6 none from by
          rcases hv : (Value.slice A5 q c5).ownBlock with _ | g
          · rw [hv] at hg6; exact grown_trans' (grown_trans' HG.out (grown_alloc _ _ none)) hg6
          · rw [hv] at hg6; exact none_new (grown_trans' HG.out (grown_alloc _ _ none)) hg6 (HO.out.lt g hv).1); clear hown6 hg6)
      obtain ⟨A6, c6, rfl, -, -⟩ := O6.out.shape
      have hlen : (l ++ 128 :: zeros (k + 1)).length = q + 1 := by rw [← HX.out, List.length_append, HXL.out]; rfl
      have O7 := Lib.hid (show OwnB w6 w.heap.size 5 (.slice A6 (q + 1) c6) (l ++ 128 :: zeros (k + 1)) by rw [← hlen]; exact O6.out)
      rw [hlen]
      have HLE := Lib.hid hlen
      clear hlen
      go_roundw
      case rel => exact ⟨k + 1, q + 1, A6, c6, _, rfl, HQE.out, rfl, HLE.out, O7.out, G6.out, HK.out⟩
      case measure => have := HQ.out; simp only [lenV_slice]; omega
    · have hkg : k = gapOf n := by omega
      have hne : (((q % 64 : Nat) : Int) != 56) = false := by
        rw [bne_eq_false_iff_eq]
        rw [gapOf] at hkg
        omega
      subst hkg
      have HO := Lib.hid ho
      have HG := Lib.hid hg
      have HX := Lib.hid hx
      have HXL := Lib.hid hxl
      have HQ := Lib.hid (show q ≤ n + 70 by have := Nat.mod_lt (120 - (n + 1) % 64) (show 0 < 64 by omega); rw [hq, gapOf]; omega)
      obtain ⟨N, hN⟩ : ∃ N, N = 8 * n := ⟨_, rfl⟩
      have w1 : IntKind.u64.wrap (n : Int) = (n : Int) := by rw [IntKind.wrap_u64]; omega
      have w2 : (n : Int) * 8 = (N : Int) := by omega
      have w3 : IntKind.u64.wrap (N : Int) = (N : Int) := by rw [IntKind.wrap_u64]; omega
      have HN8 := Lib.hid hN
      clear hx hxl ho hg hk hlt hq hN
      generalize q % 64 = m at hmd hne
      obtain ⟨wo, hwo⟩ : ∃ wo : World, wo = wr := ⟨_, rfl⟩
      rw [← hwo] at HO HG ⊢
      clear hwo
      go_wp2
      go_loopw [3, 5] (fun v i wr => ∃ (j q2 : Nat) (A7 : Option Addr) (c7 : Nat) (y : List UInt8), v = .slice A7 q2 c7 ∧ i = .int .i64 (7 - (j : Int)) ∧ j ≤ 8 ∧ y = x ++ (lenBytes n).take j ∧ y.length = q2 ∧ q2 = q + j ∧ OwnB wr w.heap.size 5 (.slice A7 q2 c7) y ∧ w.grownBy wr none) (fun _ i _ => (intOf i + 1).toNat)
      case atStart => exact ⟨0, q, A5, c5, x, rfl, rfl, by omega, by simp, HXL.out, rfl, HO.out, HG.out⟩
      case round =>
        obtain ⟨j, q2, A7, c7, y, rfl, rfl, hj, hy, hyl, hq2, ho7, hg7⟩ := hrel
        have HO7 := Lib.hid ho7
        have HG7 := Lib.hid hg7
        have HY := Lib.hid hy
        have HYL := Lib.hid hyl
        have HQ2 := Lib.hid hq2
        have HLB := Lib.hid (len_bytes n HC.out)
        clear hy hyl hq2 ho7 hg7
        rcases (by omega : j = 0 ∨ j = 1 ∨ j = 2 ∨ j = 3 ∨ j = 4 ∨ j = 5 ∨ j = 6 ∨ j = 7 ∨ j = 8) with rfl | rfl | rfl | rfl | rfl | rfl | rfl | rfl | rfl
        · have hi : (7 : Int) - ((0 : Nat) : Int) = 7 := rfl
          rw [hi]
          clear hi
          go_wp2_with (at_builtin; refine wpList_appB byteT rfl (.tmp 26) (.tmp 33) rfl (HO7.out.alloc _) (RB.new1 wr 5 (UInt8.ofNat (8 * n / 72057594037927936)) ((N : Int) / 72057594037927936) (byte_of HC.out HN8.out 72057594037927936 (by omega)) (wr.heap.size + 1) (Nat.lt_succ_self _)) rfl rfl (by rw [HYL.out]; have := HQ.out; have := HC.out; have := HQ2.out; simp; omega) (by rw [World.size_alloc]; have := HG7.out.size; omega) ?_; intro v8 w8 hown8 hg8 _ _; have O8 := Lib.hid hown8; have G8 := Lib.hid (show w.grownBy w8 none from by
              rcases hv : (Value.slice A7 q2 c7).ownBlock with _ | g
              · rw [hv] at hg8; exact grown_trans' (grown_trans' HG7.out (grown_alloc _ _ none)) hg8
              · rw [hv] at hg8; exact none_new (grown_trans' HG7.out (grown_alloc _ _ none)) hg8 (HO7.out.lt g hv).1); clear hown8 hg8)
          obtain ⟨A8, c8, rfl, -, -⟩ := O8.out.shape
          have hlen : (y ++ [(UInt8.ofNat (8 * n / 72057594037927936))]).length = q2 + 1 := by rw [List.length_append, HYL.out]; rfl
          have O9 := Lib.hid (show OwnB w8 w.heap.size 5 (.slice A8 (q2 + 1) c8) (y ++ [(UInt8.ofNat (8 * n / 72057594037927936))]) by rw [← hlen]; exact O8.out)
          rw [hlen]
          have HLE := Lib.hid hlen
          clear hlen
          go_roundw
          case rel => exact ⟨1, q2 + 1, A8, c8, _, rfl, by go_num, by omega, by rw [HY.out, HLB.out]; simp, HLE.out, by rw [HQ2.out], O9.out, G8.out⟩
          case measure => first | (simp [intOf]; done) | (simp [intOf]; omega)
        · have hi : (7 : Int) - ((1 : Nat) : Int) = 6 := rfl
          rw [hi]
          clear hi
          go_wp2_with (at_builtin; refine wpList_appB byteT rfl (.tmp 26) (.tmp 33) rfl (HO7.out.alloc _) (RB.new1 wr 5 (UInt8.ofNat (8 * n / 281474976710656)) ((N : Int) / 281474976710656) (byte_of HC.out HN8.out 281474976710656 (by omega)) (wr.heap.size + 1) (Nat.lt_succ_self _)) rfl rfl (by rw [HYL.out]; have := HQ.out; have := HC.out; have := HQ2.out; simp; omega) (by rw [World.size_alloc]; have := HG7.out.size; omega) ?_; intro v8 w8 hown8 hg8 _ _; have O8 := Lib.hid hown8; have G8 := Lib.hid (show w.grownBy w8 none from by
              rcases hv : (Value.slice A7 q2 c7).ownBlock with _ | g
              · rw [hv] at hg8; exact grown_trans' (grown_trans' HG7.out (grown_alloc _ _ none)) hg8
              · rw [hv] at hg8; exact none_new (grown_trans' HG7.out (grown_alloc _ _ none)) hg8 (HO7.out.lt g hv).1); clear hown8 hg8)
          obtain ⟨A8, c8, rfl, -, -⟩ := O8.out.shape
          have hlen : (y ++ [(UInt8.ofNat (8 * n / 281474976710656))]).length = q2 + 1 := by rw [List.length_append, HYL.out]; rfl
          have O9 := Lib.hid (show OwnB w8 w.heap.size 5 (.slice A8 (q2 + 1) c8) (y ++ [(UInt8.ofNat (8 * n / 281474976710656))]) by rw [← hlen]; exact O8.out)
          rw [hlen]
          have HLE := Lib.hid hlen
          clear hlen
          go_roundw
          case rel => exact ⟨2, q2 + 1, A8, c8, _, rfl, by go_num, by omega, by rw [HY.out, HLB.out]; simp, HLE.out, by rw [HQ2.out], O9.out, G8.out⟩
          case measure => first | (simp [intOf]; done) | (simp [intOf]; omega)
        · have hi : (7 : Int) - ((2 : Nat) : Int) = 5 := rfl
          rw [hi]
          clear hi
          go_wp2_with (at_builtin; refine wpList_appB byteT rfl (.tmp 26) (.tmp 33) rfl (HO7.out.alloc _) (RB.new1 wr 5 (UInt8.ofNat (8 * n / 1099511627776)) ((N : Int) / 1099511627776) (byte_of HC.out HN8.out 1099511627776 (by omega)) (wr.heap.size + 1) (Nat.lt_succ_self _)) rfl rfl (by rw [HYL.out]; have := HQ.out; have := HC.out; have := HQ2.out; simp; omega) (by rw [World.size_alloc]; have := HG7.out.size; omega) ?_; intro v8 w8 hown8 hg8 _ _; have O8 := Lib.hid hown8; have G8 := Lib.hid (show w.grownBy w8 none from by
              rcases hv : (Value.slice A7 q2 c7).ownBlock with _ | g
              · rw [hv] at hg8; exact grown_trans' (grown_trans' HG7.out (grown_alloc _ _ none)) hg8
              · rw [hv] at hg8; exact none_new (grown_trans' HG7.out (grown_alloc _ _ none)) hg8 (HO7.out.lt g hv).1); clear hown8 hg8)
          obtain ⟨A8, c8, rfl, -, -⟩ := O8.out.shape
          have hlen : (y ++ [(UInt8.ofNat (8 * n / 1099511627776))]).length = q2 + 1 := by rw [List.length_append, HYL.out]; rfl
          have O9 := Lib.hid (show OwnB w8 w.heap.size 5 (.slice A8 (q2 + 1) c8) (y ++ [(UInt8.ofNat (8 * n / 1099511627776))]) by rw [← hlen]; exact O8.out)
          rw [hlen]
          have HLE := Lib.hid hlen
          clear hlen
          go_roundw
          case rel => exact ⟨3, q2 + 1, A8, c8, _, rfl, by go_num, by omega, by rw [HY.out, HLB.out]; simp, HLE.out, by rw [HQ2.out], O9.out, G8.out⟩
          case measure => first | (simp [intOf]; done) | (simp [intOf]; omega)
        · have hi : (7 : Int) - ((3 : Nat) : Int) = 4 := rfl
          rw [hi]
          clear hi
          go_wp2_with (at_builtin; refine wpList_appB byteT rfl (.tmp 26) (.tmp 33) rfl (HO7.out.alloc _) (RB.new1 wr 5 (UInt8.ofNat (8 * n / 4294967296)) ((N : Int) / 4294967296) (byte_of HC.out HN8.out 4294967296 (by omega)) (wr.heap.size + 1) (Nat.lt_succ_self _)) rfl rfl (by rw [HYL.out]; have := HQ.out; have := HC.out; have := HQ2.out; simp; omega) (by rw [World.size_alloc]; have := HG7.out.size; omega) ?_; intro v8 w8 hown8 hg8 _ _; have O8 := Lib.hid hown8; have G8 := Lib.hid (show w.grownBy w8 none from by
              rcases hv : (Value.slice A7 q2 c7).ownBlock with _ | g
              · rw [hv] at hg8; exact grown_trans' (grown_trans' HG7.out (grown_alloc _ _ none)) hg8
              · rw [hv] at hg8; exact none_new (grown_trans' HG7.out (grown_alloc _ _ none)) hg8 (HO7.out.lt g hv).1); clear hown8 hg8)
          obtain ⟨A8, c8, rfl, -, -⟩ := O8.out.shape
          have hlen : (y ++ [(UInt8.ofNat (8 * n / 4294967296))]).length = q2 + 1 := by rw [List.length_append, HYL.out]; rfl
          have O9 := Lib.hid (show OwnB w8 w.heap.size 5 (.slice A8 (q2 + 1) c8) (y ++ [(UInt8.ofNat (8 * n / 4294967296))]) by rw [← hlen]; exact O8.out)
          rw [hlen]
          have HLE := Lib.hid hlen
          clear hlen
          go_roundw
          case rel => exact ⟨4, q2 + 1, A8, c8, _, rfl, by go_num, by omega, by rw [HY.out, HLB.out]; simp, HLE.out, by rw [HQ2.out], O9.out, G8.out⟩
          case measure => first | (simp [intOf]; done) | (simp [intOf]; omega)
        · have hi : (7 : Int) - ((4 : Nat) : Int) = 3 := rfl
          rw [hi]
          clear hi
          go_wp2_with (at_builtin; refine wpList_appB byteT rfl (.tmp 26) (.tmp 33) rfl (HO7.out.alloc _) (RB.new1 wr 5 (UInt8.ofNat (8 * n / 16777216)) ((N : Int) / 16777216) (byte_of HC.out HN8.out 16777216 (by omega)) (wr.heap.size + 1) (Nat.lt_succ_self _)) rfl rfl (by rw [HYL.out]; have := HQ.out; have := HC.out; have := HQ2.out; simp; omega) (by rw [World.size_alloc]; have := HG7.out.size; omega) ?_; intro v8 w8 hown8 hg8 _ _; have O8 := Lib.hid hown8; have G8 := Lib.hid (show w.grownBy w8 none from by
              rcases hv : (Value.slice A7 q2 c7).ownBlock with _ | g
              · rw [hv] at hg8; exact grown_trans' (grown_trans' HG7.out (grown_alloc _ _ none)) hg8
              · rw [hv] at hg8; exact none_new (grown_trans' HG7.out (grown_alloc _ _ none)) hg8 (HO7.out.lt g hv).1); clear hown8 hg8)
          obtain ⟨A8, c8, rfl, -, -⟩ := O8.out.shape
          have hlen : (y ++ [(UInt8.ofNat (8 * n / 16777216))]).length = q2 + 1 := by rw [List.length_append, HYL.out]; rfl
          have O9 := Lib.hid (show OwnB w8 w.heap.size 5 (.slice A8 (q2 + 1) c8) (y ++ [(UInt8.ofNat (8 * n / 16777216))]) by rw [← hlen]; exact O8.out)
          rw [hlen]
          have HLE := Lib.hid hlen
          clear hlen
          go_roundw
          case rel => exact ⟨5, q2 + 1, A8, c8, _, rfl, by go_num, by omega, by rw [HY.out, HLB.out]; simp, HLE.out, by rw [HQ2.out], O9.out, G8.out⟩
          case measure => first | (simp [intOf]; done) | (simp [intOf]; omega)
        · have hi : (7 : Int) - ((5 : Nat) : Int) = 2 := rfl
          rw [hi]
          clear hi
          go_wp2_with (at_builtin; refine wpList_appB byteT rfl (.tmp 26) (.tmp 33) rfl (HO7.out.alloc _) (RB.new1 wr 5 (UInt8.ofNat (8 * n / 65536)) ((N : Int) / 65536) (byte_of HC.out HN8.out 65536 (by omega)) (wr.heap.size + 1) (Nat.lt_succ_self _)) rfl rfl (by rw [HYL.out]; have := HQ.out; have := HC.out; have := HQ2.out; simp; omega) (by rw [World.size_alloc]; have := HG7.out.size; omega) ?_; intro v8 w8 hown8 hg8 _ _; have O8 := Lib.hid hown8; have G8 := Lib.hid (show w.grownBy w8 none from by
              rcases hv : (Value.slice A7 q2 c7).ownBlock with _ | g
              · rw [hv] at hg8; exact grown_trans' (grown_trans' HG7.out (grown_alloc _ _ none)) hg8
              · rw [hv] at hg8; exact none_new (grown_trans' HG7.out (grown_alloc _ _ none)) hg8 (HO7.out.lt g hv).1); clear hown8 hg8)
          obtain ⟨A8, c8, rfl, -, -⟩ := O8.out.shape
          have hlen : (y ++ [(UInt8.ofNat (8 * n / 65536))]).length = q2 + 1 := by rw [List.length_append, HYL.out]; rfl
          have O9 := Lib.hid (show OwnB w8 w.heap.size 5 (.slice A8 (q2 + 1) c8) (y ++ [(UInt8.ofNat (8 * n / 65536))]) by rw [← hlen]; exact O8.out)
          rw [hlen]
          have HLE := Lib.hid hlen
          clear hlen
          go_roundw
          case rel => exact ⟨6, q2 + 1, A8, c8, _, rfl, by go_num, by omega, by rw [HY.out, HLB.out]; simp, HLE.out, by rw [HQ2.out], O9.out, G8.out⟩
          case measure => first | (simp [intOf]; done) | (simp [intOf]; omega)
        · have hi : (7 : Int) - ((6 : Nat) : Int) = 1 := rfl
          rw [hi]
          clear hi
          go_wp2_with (at_builtin; refine wpList_appB byteT rfl (.tmp 26) (.tmp 33) rfl (HO7.out.alloc _) (RB.new1 wr 5 (UInt8.ofNat (8 * n / 256)) ((N : Int) / 256 % 256) (by rw [← HN8.out, ← toNat_of]; simp) (wr.heap.size + 1) (Nat.lt_succ_self _)) rfl rfl (by rw [HYL.out]; have := HQ.out; have := HC.out; have := HQ2.out; simp; omega) (by rw [World.size_alloc]; have := HG7.out.size; omega) ?_; intro v8 w8 hown8 hg8 _ _; have O8 := Lib.hid hown8; have G8 := Lib.hid (show w.grownBy w8 none from by
              rcases hv : (Value.slice A7 q2 c7).ownBlock with _ | g
              · rw [hv] at hg8; exact grown_trans' (grown_trans' HG7.out (grown_alloc _ _ none)) hg8
              · rw [hv] at hg8; exact none_new (grown_trans' HG7.out (grown_alloc _ _ none)) hg8 (HO7.out.lt g hv).1); clear hown8 hg8)
          obtain ⟨A8, c8, rfl, -, -⟩ := O8.out.shape
          have hlen : (y ++ [(UInt8.ofNat (8 * n / 256))]).length = q2 + 1 := by rw [List.length_append, HYL.out]; rfl
          have O9 := Lib.hid (show OwnB w8 w.heap.size 5 (.slice A8 (q2 + 1) c8) (y ++ [(UInt8.ofNat (8 * n / 256))]) by rw [← hlen]; exact O8.out)
          rw [hlen]
          have HLE := Lib.hid hlen
          clear hlen
          go_roundw
          case rel => exact ⟨7, q2 + 1, A8, c8, _, rfl, by go_num, by omega, by rw [HY.out, HLB.out]; simp, HLE.out, by rw [HQ2.out], O9.out, G8.out⟩
          case measure => first | (simp [intOf]; done) | (simp [intOf]; omega)
        · have hi : (7 : Int) - ((7 : Nat) : Int) = 0 := rfl
          rw [hi]
          clear hi
          go_wp2_with (at_builtin; refine wpList_appB byteT rfl (.tmp 26) (.tmp 33) rfl (HO7.out.alloc _) (RB.new1 wr 5 (UInt8.ofNat (8 * n)) ((N : Int) % 256) (by rw [← HN8.out]; exact toNat_of N) (wr.heap.size + 1) (Nat.lt_succ_self _)) rfl rfl (by rw [HYL.out]; have := HQ.out; have := HC.out; have := HQ2.out; simp; omega) (by rw [World.size_alloc]; have := HG7.out.size; omega) ?_; intro v8 w8 hown8 hg8 _ _; have O8 := Lib.hid hown8; have G8 := Lib.hid (show w.grownBy w8 none from by
              rcases hv : (Value.slice A7 q2 c7).ownBlock with _ | g
              · rw [hv] at hg8; exact grown_trans' (grown_trans' HG7.out (grown_alloc _ _ none)) hg8
              · rw [hv] at hg8; exact none_new (grown_trans' HG7.out (grown_alloc _ _ none)) hg8 (HO7.out.lt g hv).1); clear hown8 hg8)
          obtain ⟨A8, c8, rfl, -, -⟩ := O8.out.shape
          have hlen : (y ++ [(UInt8.ofNat (8 * n))]).length = q2 + 1 := by rw [List.length_append, HYL.out]; rfl
          have O9 := Lib.hid (show OwnB w8 w.heap.size 5 (.slice A8 (q2 + 1) c8) (y ++ [(UInt8.ofNat (8 * n))]) by rw [← hlen]; exact O8.out)
          rw [hlen]
          have HLE := Lib.hid hlen
          clear hlen
          go_roundw
          case rel => exact ⟨8, q2 + 1, A8, c8, _, rfl, by go_num, by omega, by rw [HY.out, HLB.out]; simp, HLE.out, by rw [HQ2.out], O9.out, G8.out⟩
          case measure => first | (simp [intOf]; done) | (simp [intOf]; omega)
        · have hi : (7 : Int) - ((8 : Nat) : Int) = -1 := rfl
          rw [hi]
          clear hi
          have HF := Lib.hid (show y = l ++ padBytes n by
            rw [HY.out, HX.out, List.take_of_length_le (by rw [lenBytes_length]; exact Nat.le_refl _), padBytes]
            simp)
          go_wp2
          go_ret
          exact ⟨_, rfl, by rw [← HF.out]; exact HO7.out, HG7.out⟩
end Go.Proofs.YtndnmjolcilamaaDoor
