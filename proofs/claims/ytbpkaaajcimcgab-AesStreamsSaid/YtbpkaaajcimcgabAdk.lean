/- The walk of addKey. -/
import Derived.Test.YtbpkaaajcimcgabBlw
import Derived.Test.YtbpkaaajcimcgabProg
import Derived.StillTailTactics
namespace Go.Proofs.Ytbpkaaajcimcgab
open Go.RowKit

/-- AddRoundKey: round r, of a cipher that holds K. -/
def addKeyOf (K l : List UInt8) (r : Nat) : List UInt8 := (List.range 16).map fun i => l.getD i 0 ^^^ K.getD (256 + 16 * r + i) 0
theorem addKeyOf_length (K l : List UInt8) (r : Nat) : (addKeyOf K l r).length = 16 := by simp [addKeyOf]

theorem arr16 : ArrT Try.prog 22 5 16 := ⟨Try.underlying22, by kernel_rfl⟩

set_option maxHeartbeats 1000000 in
theorem addKey_any (gC : Nat) (K l : List UInt8) (r : Nat) (w : World) (hK : BB w gC 43 K) (hKl : K.length = 432) (hl : l.length = 16) (hr : r ≤ 10) :
    Calls Try.prog 17 #[.pointer (some ⟨gC, 0, none⟩), .agg (bcells l).toArray, .int .i64 (r : Int)] w fun e w' => e = .returned (.agg (bcells (addKeyOf K l r)).toArray) ∧ Below w.heap.size w w' := by
  have hgC := hK.lt
  have HK := Lib.hid hK
  have HKL := Lib.hid hKl
  have HL := Lib.hid hl
  clear hK hKl hl
  go_enter Try.func17, Try.ntmps17
  go_wp2
  go_loopw [7, 8] (fun _ i wr => ∃ k : Nat, i = .int .i64 k ∧ k ≤ 16 ∧ BB wr w.heap.size 22 (mix (addKeyOf K l r) l k) ∧ Below w.heap.size w wr ∧ BB wr (w.heap.size + 1) 22 (List.replicate 16 0)) (fun _ i _ => 16 - (intOf i).toNat)
  case atStart => exact ⟨0, rfl, by omega, by rw [mix_zero]; exact (BB.new w _ l).alloc _, ((Below.refl _ _).alloc (Nat.le_refl _) _).alloc (by simp) _, heap_alloc2_new _ _ _⟩
  case round =>
    obtain ⟨k, rfl, hk, hB, hbel, hR⟩ := hrel
    by_cases hlt : k < 16
    · obtain ⟨a, ha⟩ : ∃ a, a = r * 4 := ⟨_, rfl⟩
      obtain ⟨b, hb⟩ : ∃ b, b = k / 4 := ⟨_, rfl⟩
      obtain ⟨q, hq⟩ : ∃ q, q = a + b := ⟨_, rfl⟩
      obtain ⟨m, hm⟩ : ∃ m, m = k % 4 := ⟨_, rfl⟩
      obtain ⟨u1, hu1⟩ : ∃ u, l[k]? = some u := ⟨_, List.getElem?_eq_getElem (by rw [HL.out]; exact hlt)⟩
      obtain ⟨u2, hu2⟩ : ∃ u, K[256 + q * 4 + m]? = some u := ⟨_, List.getElem?_eq_getElem (by rw [HKL.out]; omega)⟩
      have hll : (addKeyOf K l r).length = l.length := by rw [addKeyOf_length, HL.out]
      have c1 := hB.at_ (i := k) (u := u1) (by rw [mix_get _ _ hll _ _ (Nat.le_refl _)]; exact hu1)
      have c2 := (HK.out.below hbel hgC).at_ hu2
      have f1 := hB.free k
      have hki : (k : Int) < 16 := by omega
      have w1 : IntKind.i64.wrap ((r : Int) * 4) = (a : Int) := by rw [IntKind.wrap_i64]; omega
      have w2 : IntKind.i64.wrap ((k : Int) / 4) = (b : Int) := by rw [IntKind.wrap_i64]; omega
      have w3 : IntKind.i64.wrap ((a : Int) + (b : Int)) = (q : Int) := by rw [IntKind.wrap_i64]; omega
      have w4 : (k : Int).tmod 4 = (m : Int) := by rw [Int.tmod_eq_emod_of_nonneg (by omega)]; omega
      have b1 : (q : Int) < 44 := by omega
      have b2 : (m : Int) < 4 := by omega
      have hx := xor_u8 u1 u2
      have hak : (addKeyOf K l r)[k]? = some (u1 ^^^ u2) := by
        have e : 256 + 16 * r + k = 256 + q * 4 + m := by omega
        rw [addKeyOf, List.getElem?_map, List.getElem?_range hlt]
        simp only [Option.map_some, e, List.getD, hu1, hu2, Option.getD_some]
      have HN := Lib.hid (fun x hx => (mix_set (addKeyOf K l r) l hll k _ hak) ▸ hB.drew.set_ k (u1 ^^^ u2) x hx)
      have HBEL := Lib.hid hbel
      clear ha hb hq hm hak hB hbel hu1 hu2 hll
      go_wp2
      go_still_tail 18, (by kernel_rfl)
      clear w1 w2 w3 w4
      change wpList _ _ _ _ _ wr.drew
      go_wp2
      go_roundw
      case rel => exact ⟨k + 1, by go_num, by omega, HN.out _ rfl, (HBEL.out.drew.setCell (Nat.le_refl _) _), hR.drew.far (by simp) _⟩
      case measure => simp [intOf]; omega
    · have hk16 : k = 16 := by omega
      have hm := mix_all (addKeyOf K l r) l (k := k) (by rw [HL.out]; omega) (by rw [addKeyOf_length]; omega)
      rw [hm] at hB
      have HB := Lib.hid hB
      have HBEL := Lib.hid hbel
      have HR := Lib.hid hR
      clear hB hbel hm hR
      have hal := addKeyOf_length K l r
      have HAL := Lib.hid hal
      clear hal
      go_wp2_with (first
        | refine wpList_loadB arr16 rfl (.tmp 4) rfl HB.out HAL.out rfl ?_
        | (refine wpList_storeB arr16 rfl (.tmp 6) (.tmp 30) rfl HR.out rfl HAL.out rfl rfl ?_; intro w2 h2 hg2))
      exact bodyPost_ret (results_B arr16 rfl _ h2 HAL.out rfl) rfl ⟨rfl, HBEL.out.trans (below_of_grown hg2 (Nat.le_succ _) HBEL.out.size)⟩
end Go.Proofs.Ytbpkaaajcimcgab
