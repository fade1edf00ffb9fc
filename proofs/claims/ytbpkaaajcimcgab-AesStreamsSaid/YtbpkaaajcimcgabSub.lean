/- The walks of subBytes and shiftRows. -/
import Derived.Test.YtbpkaaajcimcgabLeaf
import Derived.Test.YtbpkaaajcimcgabAdk
namespace Go.Proofs.Ytbpkaaajcimcgab
open Go.RowKit

/-- 'a[i]' of an array by value. -/
theorem run_indexB {P : Program} {t e : TypeId} {n : Nat} (hT : ArrT P t e n) (he : (P.info? e).map (·.size) = some 1) (hu8 : P.underlying e = some (.int .u8)) {l : List UInt8} (hl : l.length = n) {k : Nat} {u : UInt8} (hu : l[k]? = some u) (w : World) :
    (Instr.index t (.agg (bcells l).toArray) (.int .i64 (k : Int))).run P w = .ok (.int .u8 (u.toNat : Int)) w := by
  have hk : k < l.length := (List.getElem?_eq_some_iff.1 hu).1
  have hn : (0 : Int) ≤ (k : Int) ∧ (k : Int) < (n : Int) := by omega
  have hkn : k < n := by omega
  have hag : ∀ w, (isAgg e).run P w = .ok false w := by
    intro w
    unfold isAgg
    rw [Sem.run_bind, run_underlying hu8 w]
    rfl
  have hc : (bcells l)[k]? = some (.int .u8 (u.toNat : Int)) := by rw [bcells_at, hu]; rfl
  cases hq : P.info? e with
  | none => simp [hq] at he
  | some i =>
    have hi : i.size = 1 := by simpa [hq] using he
    simp [Instr.index, run_underlying hT.ht, asIntOf, hkn, go_sem, sizeOf, typeInfo, hq, hi, hag, hc]

theorem u8Size : (Try.prog.info? 5).map (·.size) = some 1 := by kernel_rfl

def subOf (K l : List UInt8) : List UInt8 := l.map fun b => K.getD b.toNat 0
theorem subOf_length (K l : List UInt8) : (subOf K l).length = l.length := by simp [subOf]

set_option maxHeartbeats 1000000 in
theorem subBytes_any (gC : Nat) (K l : List UInt8) (w : World) (hK : BB w gC 43 K) (hKl : K.length = 432) (hl : l.length = 16) :
    Calls Try.prog 20 #[.pointer (some ⟨gC, 0, none⟩), .agg (bcells l).toArray] w fun e w' => e = .returned (.agg (bcells (subOf K l)).toArray) ∧ Below w.heap.size w w' := by
  have hgC := hK.lt
  have HK := Lib.hid hK
  have HKL := Lib.hid hKl
  have HL := Lib.hid hl
  have hb0 := BB.new w 22 l
  have HB0 := Lib.hid (hb0.alloc (.cells (bcells (List.replicate 16 0)).toArray 22))
  clear hK hKl hl hb0
  go_enter Try.func20, Try.ntmps20
  go_wp2_with (refine wpList_loadB arr16 rfl (.tmp 3) rfl HB0.out HL.out rfl ?_)
  go_loopw [8] (fun i wr => ∃ k : Nat, i = .int .i64 k ∧ k ≤ 16 ∧ BB wr w.heap.size 22 (mix (subOf K l) l k) ∧ Below w.heap.size w wr ∧ BB wr (w.heap.size + 1) 22 (List.replicate 16 0)) (fun i _ => 16 - (intOf i).toNat)
  case atStart => exact ⟨0, rfl, by omega, by rw [mix_zero]; exact (BB.new w _ l).alloc _, ((Below.refl _ _).alloc (Nat.le_refl _) _).alloc (by simp) _, heap_alloc2_new _ _ _⟩
  case round =>
    obtain ⟨k, rfl, hk, hB, hbel, hR⟩ := hrel
    have hll : (subOf K l).length = l.length := subOf_length K l
    by_cases hlt : k < 16
    · obtain ⟨u1, hu1⟩ : ∃ u, l[k]? = some u := ⟨_, List.getElem?_eq_getElem (by rw [HL.out]; exact hlt)⟩
      have hu1l := u1.toNat_lt
      obtain ⟨u2, hu2⟩ : ∃ u, K[u1.toNat]? = some u := ⟨_, List.getElem?_eq_getElem (by rw [HKL.out]; omega)⟩
      have hix := run_indexB arr16 u8Size Try.underlying5 HL.out hu1
      have c1 := hB.at_ (i := k) (u := u1) (by rw [mix_get _ _ hll _ _ (Nat.le_refl _)]; exact hu1)
      have c2 := (HK.out.below hbel hgC).at_ hu2
      have f1 := hB.free k
      have hki : (k : Int) < 16 := by omega
      have b1 : (u1.toNat : Int) < 256 := by omega
      have hak : (subOf K l)[k]? = some u2 := by
        rw [subOf, List.getElem?_map, hu1]
        simp only [Option.map_some, List.getD, hu2, Option.getD_some]
      have HN := Lib.hid (fun x hx => (mix_set (subOf K l) l hll k _ hak) ▸ hB.set_ k u2 x hx)
      have HBEL := Lib.hid hbel
      have HR := Lib.hid hR
      clear hak hB hbel hu1 hu2 hll hR
      generalize u1.toNat = n1 at *
      generalize u2.toNat = n2 at *
      go_wp2
      go_roundw
      case rel => exact ⟨k + 1, by go_num, by omega, HN.out _ rfl, (HBEL.out.setCell (Nat.le_refl _) _), HR.out.far (by simp) _⟩
      case measure => simp [intOf]; omega
    · have hm := mix_all (subOf K l) l (k := k) (by rw [HL.out]; omega) (by rw [hll, HL.out]; omega)
      rw [hm] at hB
      have HB := Lib.hid hB
      have HBEL := Lib.hid hbel
      have HR := Lib.hid hR
      have hal : (subOf K l).length = 16 := by rw [hll, HL.out]
      have HAL := Lib.hid hal
      clear hB hbel hm hR hal hll
      go_wp2_with (first
        | refine wpList_loadB arr16 rfl (.tmp 3) rfl HB.out HAL.out rfl ?_
        | (refine wpList_storeB arr16 rfl (.tmp 4) (.tmp 21) rfl HR.out rfl HAL.out rfl rfl ?_; intro w2 h2 hg2))
      exact bodyPost_ret (results_B arr16 rfl _ h2 HAL.out rfl) rfl ⟨rfl, HBEL.out.trans (below_of_grown hg2 (Nat.le_succ _) HBEL.out.size)⟩

theorem heap_alloc_at2 (w : World) (A B C : Obj) : (((w.alloc A).alloc B).alloc C).heap[w.heap.size + 2]? = some C := by
  have := heap_alloc_new ((w.alloc A).alloc B) C
  simpa using this

def shiftOf (l : List UInt8) : List UInt8 := (List.range 16).map fun i => l.getD ((i + i % 4 * 4) % 16) 0
theorem shiftOf_length (l : List UInt8) : (shiftOf l).length = 16 := by simp [shiftOf]

set_option maxHeartbeats 1000000 in
theorem shiftRows_any (l : List UInt8) (w : World) (hl : l.length = 16) :
    Calls Try.prog 19 #[.agg (bcells l).toArray] w fun e w' => e = .returned (.agg (bcells (shiftOf l)).toArray) ∧ Below w.heap.size w w' := by
  have HL := Lib.hid hl
  clear hl
  go_enter Try.func19, Try.ntmps19
  go_wp2
  go_loopw [6] (fun i wr => ∃ k : Nat, i = .int .i64 k ∧ k ≤ 16 ∧ BB wr w.heap.size 22 l ∧ BB wr (w.heap.size + 2) 22 (mix (shiftOf l) (List.replicate 16 0) k) ∧ Below w.heap.size w wr ∧ BB wr (w.heap.size + 1) 22 (List.replicate 16 0)) (fun i _ => 16 - (intOf i).toNat)
  case atStart => exact ⟨0, rfl, by omega, ((BB.new w _ l).alloc _).alloc _, by rw [mix_zero]; exact (heap_alloc_at2 _ _ _ _), (((Below.refl _ _).alloc (Nat.le_refl _) _).alloc (by simp) _).alloc (by simp; omega) _, (Below.heap_alloc _ _ _ (by simp)).trans (heap_alloc2_new _ _ _)⟩
  case round =>
    obtain ⟨k, rfl, hk, hB, hO, hbel, hR⟩ := hrel
    have hll : (shiftOf l).length = (List.replicate 16 (0 : UInt8)).length := by rw [shiftOf_length]; rfl
    by_cases hlt : k < 16
    · obtain ⟨r, hr⟩ : ∃ r, r = k % 4 := ⟨_, rfl⟩
      obtain ⟨m, hm⟩ : ∃ m, m = (k + r * 4) % 16 := ⟨_, rfl⟩
      obtain ⟨u1, hu1⟩ : ∃ u, l[m]? = some u := ⟨_, List.getElem?_eq_getElem (by rw [HL.out]; omega)⟩
      have c1 := hB.at_ hu1
      have c2 := hO.at_ (i := k) (u := 0) (by rw [mix_get _ _ hll _ _ (Nat.le_refl _), List.getElem?_replicate, if_pos hlt])
      have f1 := hO.free k
      have hki : (k : Int) < 16 := by omega
      have w4 : (k : Int) % 4 = (r : Int) := by omega
      have w5 : ((k : Int) + (r : Int) * 4) % 16 = (m : Int) := by omega
      have b1 : (m : Int) < 16 := by omega
      have b2 : (r : Int) < 4 := by omega
      have hak : (shiftOf l)[k]? = some u1 := by
        rw [shiftOf, List.getElem?_map, List.getElem?_range hlt]
        simp only [Option.map_some, List.getD]
        rw [← hr, ← hm, hu1]
        rfl
      have HN := Lib.hid (fun x hx => (mix_set (shiftOf l) _ hll k _ hak) ▸ hO.set_ k u1 x hx)
      have HBEL := Lib.hid hbel
      have HB := Lib.hid hB
      have HR := Lib.hid hR
      clear hak hB hbel hu1 hll hR hO hr hm
      generalize u1.toNat = n1 at *
      go_wp2
      go_roundw
      case rel => exact ⟨k + 1, by go_num, by omega, HB.out.far (by simp; omega) _, HN.out _ rfl, (HBEL.out.setCell (by simp; omega) _), HR.out.far (by simp) _⟩
      case measure => simp [intOf]; omega
    · have hm := mix_all (shiftOf l) (List.replicate 16 (0 : UInt8)) (k := k) (by simp; omega) (by rw [shiftOf_length]; omega)
      rw [hm] at hO
      have HO := Lib.hid hO
      have HBEL := Lib.hid hbel
      have HR := Lib.hid hR
      have HAL := Lib.hid (shiftOf_length l)
      clear hB hbel hm hR hll hO
      go_wp2_with (first
        | refine wpList_loadB arr16 rfl (.tmp 3) rfl HO.out HAL.out rfl ?_
        | (refine wpList_storeB arr16 rfl (.tmp 2) (.tmp 21) rfl HR.out rfl HAL.out rfl rfl ?_; intro w2 h2 hg2))
      exact bodyPost_ret (results_B arr16 rfl _ h2 HAL.out rfl) rfl ⟨rfl, HBEL.out.trans (below_of_grown hg2 (Nat.le_succ _) HBEL.out.size)⟩
end Go.Proofs.Ytbpkaaajcimcgab
