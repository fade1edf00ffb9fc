/- The walks of turn and counter. -/
import Derived.Test.YtbpkaaajcimcgabSub
namespace Go.Proofs.Ytbpkaaajcimcgab
open Go.RowKit

theorem arr4 : ArrT Try.prog 40 5 4 := ⟨Try.underlying40, by kernel_rfl⟩

/-- A word turned round by one byte, and substituted. -/
def turnOf (K l : List UInt8) : List UInt8 := (List.range 4).map fun i => K.getD (l.getD ((i + 1) % 4) 0).toNat 0
theorem turnOf_length (K l : List UInt8) : (turnOf K l).length = 4 := by simp [turnOf]

set_option maxRecDepth 10000 in
set_option maxHeartbeats 1000000 in
theorem turn_any (gC : Nat) (K l : List UInt8) (w : World) (hK : BB w gC 43 K) (hKl : K.length = 432) (hl : l.length = 4) :
    Calls Try.prog 26 #[.pointer (some ⟨gC, 0, none⟩), .agg (bcells l).toArray] w fun e w' => e = .returned (.agg (bcells (turnOf K l)).toArray) ∧ Below w.heap.size w w' := by
  have hgC := hK.lt
  have HK := Lib.hid hK
  have HKL := Lib.hid hKl
  have HL := Lib.hid hl
  clear hK hKl hl
  go_enter Try.func26, Try.ntmps26
  go_wp2
  go_loopw [7] (fun i wr => ∃ k : Nat, i = .int .i64 k ∧ k ≤ 4 ∧ BB wr w.heap.size 40 l ∧ BB wr (w.heap.size + 2) 40 (mix (turnOf K l) (List.replicate 4 0) k) ∧ Below w.heap.size w wr ∧ BB wr (w.heap.size + 1) 40 (List.replicate 4 0)) (fun i _ => 4 - (intOf i).toNat)
  case atStart => exact ⟨0, rfl, by omega, ((BB.new w _ l).alloc _).alloc _, by rw [mix_zero]; exact (heap_alloc_at2 _ _ _ _), (((Below.refl _ _).alloc (Nat.le_refl _) _).alloc (by simp) _).alloc (by simp; omega) _, (Below.heap_alloc _ _ _ (by simp)).trans (heap_alloc2_new _ _ _)⟩
  case round =>
    obtain ⟨k, rfl, hk, hB, hO, hbel, hR⟩ := hrel
    have hll : (turnOf K l).length = (List.replicate 4 (0 : UInt8)).length := by rw [turnOf_length]; rfl
    by_cases hlt : k < 4
    · obtain ⟨m, hm⟩ : ∃ m, m = (k + 1) % 4 := ⟨_, rfl⟩
      obtain ⟨u1, hu1⟩ : ∃ u, l[m]? = some u := ⟨_, List.getElem?_eq_getElem (by rw [HL.out]; omega)⟩
      have hu1l := u1.toNat_lt
      obtain ⟨u2, hu2⟩ : ∃ u, K[u1.toNat]? = some u := ⟨_, List.getElem?_eq_getElem (by rw [HKL.out]; omega)⟩
      have c1 := hB.at_ hu1
      have c3 := (HK.out.below hbel hgC).at_ hu2
      have c2 := hO.at_ (i := k) (u := 0) (by rw [mix_get _ _ hll _ _ (Nat.le_refl _), List.getElem?_replicate, if_pos hlt])
      have f1 := hO.free k
      have hki : (k : Int) < 4 := by omega
      obtain ⟨q, hq⟩ : ∃ q, q = k + 1 := ⟨_, rfl⟩
      have w4' : IntKind.i64.wrap ((k : Int) + 1) = (q : Int) := by rw [IntKind.wrap_i64]; omega
      have w5 : (q : Int).tmod 4 = (m : Int) := by rw [Int.tmod_eq_emod_of_nonneg (by omega)]; omega
      have b1 : (m : Int) < 4 := by omega
      have b2 : (u1.toNat : Int) < 256 := by omega
      have hak : (turnOf K l)[k]? = some u2 := by
        rw [turnOf, List.getElem?_map, List.getElem?_range hlt]
        simp only [Option.map_some, List.getD]
        rw [← hm, hu1, Option.getD_some, hu2]
        rfl
      have HN := Lib.hid (fun x hx => (mix_set (turnOf K l) _ hll k _ hak) ▸ hO.drew.set_ k u2 x hx)
      have HBEL := Lib.hid hbel
      have HB := Lib.hid hB
      have HR := Lib.hid hR
      clear hak hB hbel hu1 hll hR hO hm hu2 hu1l hq
      generalize u1.toNat = n1 at *
      generalize u2.toNat = n2 at *
      go_wp2
      go_still_tail 12, (by kernel_rfl)
      clear w4' w5
      change wpList _ _ _ _ _ wr.drew
      go_wp2
      go_roundw
      case rel => exact ⟨k + 1, by go_num, by omega, HB.out.drew.far (by simp; omega) _, HN.out _ rfl, (HBEL.out.drew.setCell (by simp; omega) _), HR.out.drew.far (by simp) _⟩
      case measure => simp [intOf]; omega
    · have hm := mix_all (turnOf K l) (List.replicate 4 (0 : UInt8)) (k := k) (by simp; omega) (by rw [turnOf_length]; omega)
      rw [hm] at hO
      have HO := Lib.hid hO
      have HBEL := Lib.hid hbel
      have HR := Lib.hid hR
      have HAL := Lib.hid (turnOf_length K l)
      clear hB hbel hm hR hll hO
      go_wp2_with (first
        | refine wpList_loadB arr4 rfl (.tmp 5) rfl HO.out HAL.out rfl ?_
        | (refine wpList_storeB arr4 rfl (.tmp 4) (.tmp 23) rfl HR.out rfl HAL.out rfl rfl ?_; intro w2 h2 hg2))
      exact bodyPost_ret (results_B arr4 rfl _ h2 HAL.out rfl) rfl ⟨rfl, HBEL.out.trans (below_of_grown hg2 (Nat.le_succ _) HBEL.out.size)⟩

/-- The block of two numbers. -/
def counterOf (a b : Nat) : List UInt8 := (List.range 16).map fun i => if i < 8 then UInt8.ofNat (a / 2 ^ (8 * (7 - i))) else UInt8.ofNat (b / 2 ^ (8 * (15 - i)))
/-- The same when k of its bytes on either side are laid, from the end on. -/
def counterTo (a b k : Nat) : List UInt8 := (List.range 16).map fun i => if i < 8 then (if 8 ≤ k + i then UInt8.ofNat (a / 2 ^ (8 * (7 - i))) else 0) else (if 16 ≤ k + i then UInt8.ofNat (b / 2 ^ (8 * (15 - i))) else 0)
theorem counterTo_zero (a b : Nat) : counterTo a b 0 = List.replicate 16 0 := by
  apply List.ext_getElem?
  intro i
  unfold counterTo
  by_cases h : i < 16
  · rw [List.getElem?_map, List.getElem?_range h, List.getElem?_replicate, if_pos h, Option.map_some]
    congr 1
    by_cases h8 : i < 8
    · rw [if_pos h8, if_neg (by omega)]
    · rw [if_neg h8, if_neg (by omega)]
  · rw [List.getElem?_eq_none (by simp; omega), List.getElem?_eq_none (by simp; omega)]
theorem counterTo_all (a b : Nat) : counterTo a b 8 = counterOf a b := by
  unfold counterTo counterOf
  apply List.map_congr_left
  intro i hi
  have hi' : i < 16 := by simpa using hi
  by_cases h8 : i < 8
  · rw [if_pos h8, if_pos h8, if_pos (by omega)]
  · rw [if_neg h8, if_neg h8, if_pos (by omega)]
theorem counterTo_length (a b k : Nat) : (counterTo a b k).length = 16 := by simp [counterTo]
theorem counterOf_length (a b : Nat) : (counterOf a b).length = 16 := by simp [counterOf]
theorem counterTo_set (a b k : Nat) (hk : k < 8) : ((counterTo a b k).set (7 - k) (UInt8.ofNat (a / 2 ^ (8 * k)))).set (15 - k) (UInt8.ofNat (b / 2 ^ (8 * k))) = counterTo a b (k + 1) := by
  apply List.ext_getElem?
  intro i
  rw [List.getElem?_set, List.getElem?_set]
  by_cases h : i < 16
  · have e : ∀ j, (counterTo a b j)[i]? = some (if i < 8 then (if 8 ≤ j + i then UInt8.ofNat (a / 2 ^ (8 * (7 - i))) else 0) else (if 16 ≤ j + i then UInt8.ofNat (b / 2 ^ (8 * (15 - i))) else 0)) := by
      intro j
      rw [counterTo, List.getElem?_map, List.getElem?_range h]
      rfl
    rw [e, e, List.length_set, counterTo_length]
    by_cases h1 : 15 - k = i
    · have : k = 15 - i := by omega
      rw [if_pos h1, if_pos (by omega), if_neg (by omega), if_pos (by omega), this]
    · rw [if_neg h1]
      by_cases h2 : 7 - k = i
      · have : k = 7 - i := by omega
        rw [if_pos h2, if_pos (by omega), if_pos (by omega), if_pos (by omega), this]
      · rw [if_neg h2]
        congr 1
        by_cases h8 : i < 8
        · rw [if_pos h8, if_pos h8]
          by_cases h9 : 8 ≤ k + i
          · rw [if_pos h9, if_pos (by omega)]
          · rw [if_neg h9, if_neg (by omega)]
        · rw [if_neg h8, if_neg h8]
          by_cases h9 : 16 ≤ k + i
          · rw [if_pos h9, if_pos (by omega)]
          · rw [if_neg h9, if_neg (by omega)]
  · rw [List.getElem?_eq_none (by rw [counterTo_length]; omega), List.getElem?_eq_none (by rw [counterTo_length]; omega), if_neg (by omega), if_neg (by omega)]

theorem shr_byte (a k : Nat) : ((a : Int) / ((2 ^ (8 * k) : Nat) : Int)) % 256 = ((UInt8.ofNat (a / 2 ^ (8 * k))).toNat : Int) := by
  simp

set_option maxHeartbeats 1000000 in
theorem counter_any (a b : Nat) (w : World) :
    Calls Try.prog 23 #[.int .u64 (a : Int), .int .u64 (b : Int)] w fun e w' => e = .returned (.agg (bcells (counterOf a b)).toArray) ∧ Below w.heap.size w w' := by
  go_enter Try.func23, Try.ntmps23
  go_wp2
  go_loopw [7] (fun i wr => ∃ k : Nat, i = .int .i64 k ∧ k ≤ 8 ∧ BB wr (w.heap.size + 1) 22 (counterTo a b k) ∧ Below w.heap.size w wr ∧ BB wr w.heap.size 22 (List.replicate 16 0)) (fun i _ => 8 - (intOf i).toNat)
  case atStart => exact ⟨0, rfl, by omega, by rw [counterTo_zero]; exact heap_alloc2_new _ _ _, ((Below.refl _ _).alloc (Nat.le_refl _) _).alloc (by simp) _, heap_alloc2_old _ _ _⟩
  case round =>
    obtain ⟨k, rfl, hk, hO, hbel, hR⟩ := hrel
    by_cases hlt : k < 8
    · have c1 := hO.at_ (i := 7 - k) (u := 0) (by rw [counterTo, List.getElem?_map, List.getElem?_range (by omega), Option.map_some, if_pos (by omega), if_neg (by omega)])
      have c2 := hO.at_ (i := 15 - k) (u := 0) (by rw [counterTo, List.getElem?_map, List.getElem?_range (by omega), Option.map_some, if_neg (by omega), if_neg (by omega)])
      have f1 := hO.free (7 - k)
      have f2 := hO.free (15 - k)
      have hki : (k : Int) < 8 := by omega
      have HN := Lib.hid (fun x y hx hy => (counterTo_set a b k hlt) ▸ (hO.set_ (7 - k) (UInt8.ofNat (a / 2 ^ (8 * k))) x hx).set_ (15 - k) (UInt8.ofNat (b / 2 ^ (8 * k))) y hy)
      have HBEL := Lib.hid hbel
      have HR := Lib.hid hR
      clear hbel hR hO
      go_wp2
      go_roundw
      case rel => exact ⟨k + 1, by go_num, by omega, HN.out _ _ (by simp) (by simp), (HBEL.out.setCell (Nat.le_succ _) _).setCell (Nat.le_succ _) _, (HR.out.far (by simp) _).far (by simp) _⟩
      case measure => simp [intOf]; omega
    · obtain rfl : k = 8 := by omega
      rw [counterTo_all] at hO
      have HO := Lib.hid hO
      have HBEL := Lib.hid hbel
      have HR := Lib.hid hR
      have HAL := Lib.hid (counterOf_length a b)
      clear hbel hR hO
      go_wp2_with (first
        | refine wpList_loadB arr16 rfl (.tmp 5) rfl HO.out HAL.out rfl ?_
        | (refine wpList_storeB arr16 rfl (.tmp 4) (.tmp 27) rfl HR.out rfl HAL.out rfl rfl ?_; intro w2 h2 hg2))
      exact bodyPost_ret (results_B arr16 rfl _ h2 HAL.out rfl) rfl ⟨rfl, HBEL.out.trans (below_of_grown hg2 (Nat.le_refl _) HBEL.out.size)⟩
end Go.Proofs.Ytbpkaaajcimcgab
