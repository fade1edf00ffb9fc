/- The document's reading of tickets, authenticators and grants, beside the code's. Plain lemmas. -/
import Derived.Test.YthgejidimnbplaaGreatDoorTkm
import Derived.Test.YthgejidimnbplaaGreatDoorTkd
namespace Go.Proofs.YthgejidimnbplaaGreatDoor
open Go.RowKit

theorem numB_back {v : List UInt8} (h : (readOf v).2 = true) : numB (readOf v).1 = v := by
  have h1 : readOf v = (numOf v, true) := by
    unfold readOf at h ⊢
    split
    · rfl
    · rename_i h2; rw [if_neg h2] at h; simp at h
  rw [h1]
  exact numB_numOf v h1
theorem zip_map : ∀ (fs : List Fd), (fs.map (·.1)).zip (fs.map (·.2)) = fs
  | [] => rfl
  | (a, b) :: fs => by simp [zip_map fs]
theorem valuesOf_bytes {l : List UInt8} {ts : List Int} {vs : List (List UInt8)} (h : valuesOf l ts = (vs, 0)) : l = bytesF (ts.zip vs) := by
  unfold valuesOf at h
  split at h
  · rename_i h1
    simp only [Prod.mk.injEq] at h
    exact absurd h.2 h1
  · rename_i h1
    split at h
    · rename_i h2
      have h0 : (splitOf l).2 = 0 := by simpa using h1
      simp only [Prod.mk.injEq, and_true] at h
      have hj := joinOf_splitOf l h0
      have hf := (joinOf_flat (splitOf l).1 [] (by rw [hj])).1
      rw [hj] at hf
      rw [← h, ← h2, zip_map, bytesF]
      simpa using hf
    · simp at h
theorem timeN_le {n : Nat} (h : 0 ≤ timeN n) : n ≤ 1099511627776 := by
  unfold timeN at h
  split at h <;> omega
theorem timeN_i64 {n : Nat} (h : 0 ≤ timeN n) : i64w n = timeN n := by
  have h1 := timeN_le h
  rw [i64w_small _ h1, timeN, if_neg (by omega)]
theorem timeN_nat {n : Nat} (h : 0 ≤ timeN n) : (i64w n).toNat = n := by
  rw [i64w_small _ (timeN_le h)]
  omega
theorem timeN_small {n : Nat} (h : n ≤ 1099511627776) : timeN n = (n : Int) := by rw [timeN, if_neg (by omega)]

/-! t -/
theorem tReads_doc {l v0 v1 v2 v3 v4 v5 : List UInt8} (hv : valuesOf l [1, 2, 3, 4, 5, 6] = ([v0, v1, v2, v3, v4, v5], 0)) :
    tReads l = ((readOf v3).2 && ((readOf v4).2 && ((readOf v5).2 && (decide (v2.length = 16) && (tOk v0 v1 (timeN (readOf v3).1) (timeN (readOf v4).1) (timeN (readOf v5).1)))))) := by
  have hb : l = bytesF [(1, v0), (2, v1), (3, v2), (4, v3), (5, v4), (6, v5)] := valuesOf_bytes hv
  rw [Bool.eq_iff_iff]
  simp only [tReads, tVals, hv, tOkV, tBytesV, List.getD_cons_zero, List.getD_cons_succ, Bool.and_eq_true, decide_eq_true_eq, true_and]
  constructor
  · rintro ⟨ho, hy⟩
    have hi := tOk_int ho
    have hvv := tVals_back ho (keyB_length v2)
    rw [hy, hv] at hvv
    simp only [Prod.mk.injEq, List.cons.injEq, and_true, true_and] at hvv
    obtain ⟨h2, h3, h4, h5⟩ := hvv
    have r3 := readOf_numB (i64w (readOf v3).1).toNat (by omega)
    rw [← h3] at r3
    have n3 : (readOf v3).1 = (i64w (readOf v3).1).toNat := congrArg Prod.fst r3
    have t3 : timeN (readOf v3).1 = i64w (readOf v3).1 := by rw [timeN_small (by omega)]; omega
    have r4 := readOf_numB (i64w (readOf v4).1).toNat (by omega)
    rw [← h4] at r4
    have n4 : (readOf v4).1 = (i64w (readOf v4).1).toNat := congrArg Prod.fst r4
    have t4 : timeN (readOf v4).1 = i64w (readOf v4).1 := by rw [timeN_small (by omega)]; omega
    have r5 := readOf_numB (i64w (readOf v5).1).toNat (by omega)
    rw [← h5] at r5
    have n5 : (readOf v5).1 = (i64w (readOf v5).1).toNat := congrArg Prod.fst r5
    have t5 : timeN (readOf v5).1 = i64w (readOf v5).1 := by rw [timeN_small (by omega)]; omega
    refine ⟨congrArg Prod.snd r3, congrArg Prod.snd r4, congrArg Prod.snd r5, by rw [h2, keyB_length], by rw [t3, t4, t5]; exact ho⟩
  · rintro ⟨k3, k4, k5, hk, ho⟩
    have hi := tOk_int ho
    refine ⟨by rw [timeN_i64 (n := (readOf v3).1) (by omega), timeN_i64 (n := (readOf v4).1) (by omega), timeN_i64 (n := (readOf v5).1) (by omega)]; exact ho, ?_⟩
    rw [timeN_nat (n := (readOf v3).1) (by omega), timeN_nat (n := (readOf v4).1) (by omega), timeN_nat (n := (readOf v5).1) (by omega), keyB_self v2 hk, tFields, numB_back k3, numB_back k4, numB_back k5, hb]
theorem tMade_doc {v0 v1 v2 v3 v4 v5 : List UInt8} (ho : tOk v0 v1 (timeN (readOf v3).1) (timeN (readOf v4).1) (timeN (readOf v5).1) = true) : tMade [v0, v1, v2, v3, v4, v5] = tcells (ba v0) (ba v1) (keyB v2) (timeN (readOf v3).1) (timeN (readOf v4).1) (timeN (readOf v5).1) := by
  have hi := tOk_int ho
  show tcells (ba v0) (ba v1) (keyB v2) (i64w (readOf v3).1) (i64w (readOf v4).1) (i64w (readOf v5).1) = _
  rw [timeN_i64 (n := (readOf v3).1) (by omega), timeN_i64 (n := (readOf v4).1) (by omega), timeN_i64 (n := (readOf v5).1) (by omega)]

/-! a -/
theorem aReads_doc {l v0 v1 v2 v3 : List UInt8} (hv : valuesOf l [11, 12, 13, 14] = ([v0, v1, v2, v3], 0)) :
    aReads l = ((readOf v1).2 && ((readOf v2).2 && (decide (v3.length = 16) && (aOk v0 (timeN (readOf v1).1))))) := by
  have hb : l = bytesF [(11, v0), (12, v1), (13, v2), (14, v3)] := valuesOf_bytes hv
  rw [Bool.eq_iff_iff]
  simp only [aReads, aVals, hv, aOkV, aBytesV, List.getD_cons_zero, List.getD_cons_succ, Bool.and_eq_true, decide_eq_true_eq, true_and]
  constructor
  · rintro ⟨ho, hy⟩
    have hi := aOk_int ho
    have hvv := aVals_back ho (keyB_length v3) (no := (readOf v2).1)
    rw [hy, hv] at hvv
    simp only [Prod.mk.injEq, List.cons.injEq, and_true, true_and] at hvv
    obtain ⟨h1, h2, h3⟩ := hvv
    have r1 := readOf_numB (i64w (readOf v1).1).toNat (by omega)
    rw [← h1] at r1
    have n1 : (readOf v1).1 = (i64w (readOf v1).1).toNat := congrArg Prod.fst r1
    have t1 : timeN (readOf v1).1 = i64w (readOf v1).1 := by rw [timeN_small (by omega)]; omega
    have r2 := readOf_numB (readOf v2).1 (readOf_lt v2)
    rw [← h2] at r2
    refine ⟨congrArg Prod.snd r1, congrArg Prod.snd r2, by rw [h3, keyB_length], by rw [t1]; exact ho⟩
  · rintro ⟨k1, k2, hk, ho⟩
    have hi := aOk_int ho
    refine ⟨by rw [timeN_i64 (n := (readOf v1).1) (by omega)]; exact ho, ?_⟩
    rw [timeN_nat (n := (readOf v1).1) (by omega), keyB_self v3 hk, aFields, numB_back k1, numB_back k2, hb]
theorem aMade_doc {v0 v1 v2 v3 : List UInt8} (ho : aOk v0 (timeN (readOf v1).1) = true) : aMade [v0, v1, v2, v3] = acells (ba v0) (keyB v3) (timeN (readOf v1).1) ((readOf v2).1 : Int) := by
  have hi := aOk_int ho
  show acells (ba v0) (keyB v3) (i64w (readOf v1).1) ((readOf v2).1 : Int) = _
  rw [timeN_i64 (n := (readOf v1).1) (by omega)]

/-! g -/
theorem gReads_doc {l v0 v1 v2 v3 v4 v5 : List UInt8} (hv : valuesOf l [21, 22, 23, 24, 25, 26] = ([v0, v1, v2, v3, v4, v5], 0)) :
    gReads l = ((readOf v2).2 && ((readOf v3).2 && ((readOf v4).2 && ((readOf v5).2 && (decide (v1.length = 16) && (gOk v0 (timeN (readOf v3).1) (timeN (readOf v4).1) (timeN (readOf v5).1))))))) := by
  have hb : l = bytesF [(21, v0), (22, v1), (23, v2), (24, v3), (25, v4), (26, v5)] := valuesOf_bytes hv
  rw [Bool.eq_iff_iff]
  simp only [gReads, gVals, hv, gOkV, gBytesV, List.getD_cons_zero, List.getD_cons_succ, Bool.and_eq_true, decide_eq_true_eq, true_and]
  constructor
  · rintro ⟨ho, hy⟩
    have hi := gOk_int ho
    have hvv := gVals_back ho (keyB_length v1) (no := (readOf v2).1)
    rw [hy, hv] at hvv
    simp only [Prod.mk.injEq, List.cons.injEq, and_true, true_and] at hvv
    obtain ⟨h1, h2, h3, h4, h5⟩ := hvv
    have r3 := readOf_numB (i64w (readOf v3).1).toNat (by omega)
    rw [← h3] at r3
    have n3 : (readOf v3).1 = (i64w (readOf v3).1).toNat := congrArg Prod.fst r3
    have t3 : timeN (readOf v3).1 = i64w (readOf v3).1 := by rw [timeN_small (by omega)]; omega
    have r4 := readOf_numB (i64w (readOf v4).1).toNat (by omega)
    rw [← h4] at r4
    have n4 : (readOf v4).1 = (i64w (readOf v4).1).toNat := congrArg Prod.fst r4
    have t4 : timeN (readOf v4).1 = i64w (readOf v4).1 := by rw [timeN_small (by omega)]; omega
    have r5 := readOf_numB (i64w (readOf v5).1).toNat (by omega)
    rw [← h5] at r5
    have n5 : (readOf v5).1 = (i64w (readOf v5).1).toNat := congrArg Prod.fst r5
    have t5 : timeN (readOf v5).1 = i64w (readOf v5).1 := by rw [timeN_small (by omega)]; omega
    have r2 := readOf_numB (readOf v2).1 (readOf_lt v2)
    rw [← h2] at r2
    refine ⟨congrArg Prod.snd r2, congrArg Prod.snd r3, congrArg Prod.snd r4, congrArg Prod.snd r5, by rw [h1, keyB_length], by rw [t3, t4, t5]; exact ho⟩
  · rintro ⟨k2, k3, k4, k5, hk, ho⟩
    have hi := gOk_int ho
    refine ⟨by rw [timeN_i64 (n := (readOf v3).1) (by omega), timeN_i64 (n := (readOf v4).1) (by omega), timeN_i64 (n := (readOf v5).1) (by omega)]; exact ho, ?_⟩
    rw [timeN_nat (n := (readOf v3).1) (by omega), timeN_nat (n := (readOf v4).1) (by omega), timeN_nat (n := (readOf v5).1) (by omega), keyB_self v1 hk, gFields, numB_back k2, numB_back k3, numB_back k4, numB_back k5, hb]
theorem gMade_doc {v0 v1 v2 v3 v4 v5 : List UInt8} (ho : gOk v0 (timeN (readOf v3).1) (timeN (readOf v4).1) (timeN (readOf v5).1) = true) : gMade [v0, v1, v2, v3, v4, v5] = gcells (ba v0) (keyB v1) ((readOf v2).1 : Int) (timeN (readOf v3).1) (timeN (readOf v4).1) (timeN (readOf v5).1) := by
  have hi := gOk_int ho
  show gcells (ba v0) (keyB v1) ((readOf v2).1 : Int) (i64w (readOf v3).1) (i64w (readOf v4).1) (i64w (readOf v5).1) = _
  rw [timeN_i64 (n := (readOf v3).1) (by omega), timeN_i64 (n := (readOf v4).1) (by omega), timeN_i64 (n := (readOf v5).1) (by omega)]
end Go.Proofs.YthgejidimnbplaaGreatDoor
