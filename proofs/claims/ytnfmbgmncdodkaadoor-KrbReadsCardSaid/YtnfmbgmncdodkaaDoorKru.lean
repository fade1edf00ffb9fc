/- The walk of the document's Right (krb). -/
import Derived.Test.YtnfmbgmncdodkaaDoorKrh
import Derived.Test.YtnfmbgmncdodkaaDoorTkd
namespace Go.Proofs.YtnfmbgmncdodkaaDoor
open Go.RowKit

def I64k (n : Int) : Prop := -9223372036854775808 ≤ n ∧ n ≤ 9223372036854775807
theorem u64n_zero {n : Int} (h : I64k n) : decide ((numB (u64n n)).length = 0) = decide (n = 0) := by
  unfold I64k at h
  refine decide_eq_decide.2 ⟨fun h0 => ?_, fun h0 => by rw [h0]; rfl⟩
  have h1 := numB_nil (u64n_lt n) h0
  unfold u64n at h1
  omega
section
variable {m : Msg} {L : List Int}
theorem step32 (ht : tagsK m.kd = L) : stepK m 32 = if L.contains 32 = true then parses m.c.data.toList else decide (m.c.data.toList.length = 0) := by unfold stepK; rw [ht]; rfl
theorem step33 (ht : tagsK m.kd = L) : stepK m 33 = if L.contains 33 = true then parses m.s.data.toList else decide (m.s.data.toList.length = 0) := by unfold stepK; rw [ht]; rfl
theorem step34 (ht : tagsK m.kd = L) (h : L.contains 34 = true) : stepK m 34 = true := by unfold stepK; rw [ht, if_pos h]; rfl
theorem step35 (ht : tagsK m.kd = L) (h : I64k m.en) : stepK m 35 = if L.contains 35 = true then timeOk m.en else decide (m.en = 0) := by rw [← u64n_zero h]; unfold stepK; rw [ht]; rfl
theorem step36 (ht : tagsK m.kd = L) (h : I64k m.fl) : stepK m 36 = if L.contains 36 = true then flagsOk m.fl else decide (m.fl = 0) := by rw [← u64n_zero h]; unfold stepK; rw [ht]; rfl
theorem step37 (ht : tagsK m.kd = L) : stepK m 37 = if L.contains 37 = true then decide (m.t.length ≤ 3000) else decide (m.t.length = 0) := by unfold stepK; rw [ht]; rfl
theorem step38 (ht : tagsK m.kd = L) : stepK m 38 = if L.contains 38 = true then decide (m.sl.length ≤ 3000) else decide (m.sl.length = 0) := by unfold stepK; rw [ht]; rfl
theorem step39 (ht : tagsK m.kd = L) (h : I64k m.co) : stepK m 39 = if L.contains 39 = true then decide (1 ≤ m.co) && decide (m.co ≤ 999) else decide (m.co = 0) := by rw [← u64n_zero h]; unfold stepK; rw [ht]; rfl
theorem okK_all : okK m = (decide (tagsK m.kd ≠ []) && (stepK m 32 && (stepK m 33 && (stepK m 34 && (stepK m 35 && (stepK m 36 && (stepK m 37 && (stepK m 38 && (stepK m 39 && true))))))))) := rfl
end
theorem ba_full {c : ByteArray} (h : c ≠ ⟨#[]⟩) : c.toList.isEmpty = false := by
  cases hq : c.toList with
  | nil => exact absurd (ByteArray.ext (Array.ext' (by rw [← ByteArray.toList_eq]; exact hq))) h
  | cons => rfl
theorem ba_emp {c : ByteArray} (h : c = ⟨#[]⟩) : c.toList.isEmpty = true := by rw [h, ByteArray.toList_eq]; rfl
theorem ba_len {c : ByteArray} : decide (c.data.toList.length = 0) = decide (c = ⟨#[]⟩) := by
  refine decide_eq_decide.2 ⟨fun h => ByteArray.ext (Array.ext' (List.eq_nil_of_length_eq_zero h)), fun h => by rw [h]; rfl⟩
theorem okK_1 {m : Msg} (hk : m.kd = 1) (h1 : I64k m.en) (h2 : I64k m.fl) (h3 : I64k m.co) : okK m = (parses m.c.data.toList && (parses m.s.data.toList && (timeOk m.en && (flagsOk m.fl && (decide (m.t.length = 0) && (decide (m.sl.length = 0) && (decide (m.co = 0)))))))) := by
  have ht : tagsK m.kd = [31, 32, 33, 34, 35, 36] := by rw [hk]; rfl
  rw [okK_all, step32 ht, step33 ht, step34 ht (by decide), step35 ht h1, step36 ht h2, step37 ht, step38 ht, step39 ht h3, ht]
  rw [show ([31, 32, 33, 34, 35, 36] : List Int).contains 32 = true from by decide, show ([31, 32, 33, 34, 35, 36] : List Int).contains 33 = true from by decide, show ([31, 32, 33, 34, 35, 36] : List Int).contains 35 = true from by decide, show ([31, 32, 33, 34, 35, 36] : List Int).contains 36 = true from by decide, show ([31, 32, 33, 34, 35, 36] : List Int).contains 37 = false from by decide, show ([31, 32, 33, 34, 35, 36] : List Int).contains 38 = false from by decide, show ([31, 32, 33, 34, 35, 36] : List Int).contains 39 = false from by decide]
  simp only [ne_eq, reduceCtorEq, not_false_eq_true, decide_true, Bool.true_and, Bool.and_true, if_true, Bool.false_eq_true, if_false]
  try rw [decide_eq_true (by simp : ([31, 32, 33, 34, 35, 36] : List Int) ≠ []), Bool.true_and]
theorem okK_2 {m : Msg} (hk : m.kd = 2) (h1 : I64k m.en) (h2 : I64k m.fl) (h3 : I64k m.co) : okK m = (decide (m.c = ⟨#[]⟩) && (parses m.s.data.toList && (timeOk m.en && (flagsOk m.fl && (decide (m.t.length ≤ 3000) && (decide (m.sl.length ≤ 3000) && (decide (m.co = 0)))))))) := by
  have ht : tagsK m.kd = [31, 33, 34, 35, 36, 37, 38] := by rw [hk]; rfl
  rw [okK_all, step32 ht, step33 ht, step34 ht (by decide), step35 ht h1, step36 ht h2, step37 ht, step38 ht, step39 ht h3, ht]
  rw [show ([31, 33, 34, 35, 36, 37, 38] : List Int).contains 32 = false from by decide, show ([31, 33, 34, 35, 36, 37, 38] : List Int).contains 33 = true from by decide, show ([31, 33, 34, 35, 36, 37, 38] : List Int).contains 35 = true from by decide, show ([31, 33, 34, 35, 36, 37, 38] : List Int).contains 36 = true from by decide, show ([31, 33, 34, 35, 36, 37, 38] : List Int).contains 37 = true from by decide, show ([31, 33, 34, 35, 36, 37, 38] : List Int).contains 38 = true from by decide, show ([31, 33, 34, 35, 36, 37, 38] : List Int).contains 39 = false from by decide]
  simp only [ne_eq, reduceCtorEq, not_false_eq_true, decide_true, Bool.true_and, Bool.and_true, if_true, Bool.false_eq_true, if_false, ba_len]
  try rw [decide_eq_true (by simp : ([31, 33, 34, 35, 36, 37, 38] : List Int) ≠ []), Bool.true_and]
theorem okK_3 {m : Msg} (hk : m.kd = 3) (h1 : I64k m.en) (h2 : I64k m.fl) (h3 : I64k m.co) : okK m = (decide (m.c = ⟨#[]⟩) && (decide (m.s = ⟨#[]⟩) && (decide (m.en = 0) && (decide (m.fl = 0) && (decide (m.t.length ≤ 3000) && (decide (m.sl.length ≤ 3000) && (decide (m.co = 0)))))))) := by
  have ht : tagsK m.kd = [31, 34, 37, 38] := by rw [hk]; rfl
  rw [okK_all, step32 ht, step33 ht, step34 ht (by decide), step35 ht h1, step36 ht h2, step37 ht, step38 ht, step39 ht h3, ht]
  rw [show ([31, 34, 37, 38] : List Int).contains 32 = false from by decide, show ([31, 34, 37, 38] : List Int).contains 33 = false from by decide, show ([31, 34, 37, 38] : List Int).contains 35 = false from by decide, show ([31, 34, 37, 38] : List Int).contains 36 = false from by decide, show ([31, 34, 37, 38] : List Int).contains 37 = true from by decide, show ([31, 34, 37, 38] : List Int).contains 38 = true from by decide, show ([31, 34, 37, 38] : List Int).contains 39 = false from by decide]
  simp only [ne_eq, reduceCtorEq, not_false_eq_true, decide_true, Bool.true_and, Bool.and_true, if_true, Bool.false_eq_true, if_false, ba_len]
  try rw [decide_eq_true (by simp : ([31, 34, 37, 38] : List Int) ≠ []), Bool.true_and]
theorem okK_4 {m : Msg} (hk : m.kd = 4) (h1 : I64k m.en) (h2 : I64k m.fl) (h3 : I64k m.co) : okK m = (decide (m.c = ⟨#[]⟩) && (decide (m.s = ⟨#[]⟩) && (decide (m.en = 0) && (decide (m.fl = 0) && (decide (m.t.length ≤ 3000) && (decide (m.sl.length ≤ 3000) && (decide (m.co = 0)))))))) := by
  have ht : tagsK m.kd = [31, 34, 37, 38] := by rw [hk]; rfl
  rw [okK_all, step32 ht, step33 ht, step34 ht (by decide), step35 ht h1, step36 ht h2, step37 ht, step38 ht, step39 ht h3, ht]
  rw [show ([31, 34, 37, 38] : List Int).contains 32 = false from by decide, show ([31, 34, 37, 38] : List Int).contains 33 = false from by decide, show ([31, 34, 37, 38] : List Int).contains 35 = false from by decide, show ([31, 34, 37, 38] : List Int).contains 36 = false from by decide, show ([31, 34, 37, 38] : List Int).contains 37 = true from by decide, show ([31, 34, 37, 38] : List Int).contains 38 = true from by decide, show ([31, 34, 37, 38] : List Int).contains 39 = false from by decide]
  simp only [ne_eq, reduceCtorEq, not_false_eq_true, decide_true, Bool.true_and, Bool.and_true, if_true, Bool.false_eq_true, if_false, ba_len]
  try rw [decide_eq_true (by simp : ([31, 34, 37, 38] : List Int) ≠ []), Bool.true_and]
theorem okK_5 {m : Msg} (hk : m.kd = 5) (h1 : I64k m.en) (h2 : I64k m.fl) (h3 : I64k m.co) : okK m = (decide (m.c = ⟨#[]⟩) && (decide (m.s = ⟨#[]⟩) && (decide (m.en = 0) && (decide (m.fl = 0) && (decide (m.t.length = 0) && (decide (m.sl.length ≤ 3000) && (decide (m.co = 0)))))))) := by
  have ht : tagsK m.kd = [31, 34, 38] := by rw [hk]; rfl
  rw [okK_all, step32 ht, step33 ht, step34 ht (by decide), step35 ht h1, step36 ht h2, step37 ht, step38 ht, step39 ht h3, ht]
  rw [show ([31, 34, 38] : List Int).contains 32 = false from by decide, show ([31, 34, 38] : List Int).contains 33 = false from by decide, show ([31, 34, 38] : List Int).contains 35 = false from by decide, show ([31, 34, 38] : List Int).contains 36 = false from by decide, show ([31, 34, 38] : List Int).contains 37 = false from by decide, show ([31, 34, 38] : List Int).contains 38 = true from by decide, show ([31, 34, 38] : List Int).contains 39 = false from by decide]
  simp only [ne_eq, reduceCtorEq, not_false_eq_true, decide_true, Bool.true_and, Bool.and_true, if_true, Bool.false_eq_true, if_false, ba_len]
  try rw [decide_eq_true (by simp : ([31, 34, 38] : List Int) ≠ []), Bool.true_and]
theorem okK_6 {m : Msg} (hk : m.kd = 6) (h1 : I64k m.en) (h2 : I64k m.fl) (h3 : I64k m.co) : okK m = (decide (m.c = ⟨#[]⟩) && (decide (m.s = ⟨#[]⟩) && (decide (m.en = 0) && (decide (m.fl = 0) && (decide (m.t.length = 0) && (decide (m.sl.length ≤ 3000) && (decide (m.co = 0)))))))) := by
  have ht : tagsK m.kd = [31, 34, 38] := by rw [hk]; rfl
  rw [okK_all, step32 ht, step33 ht, step34 ht (by decide), step35 ht h1, step36 ht h2, step37 ht, step38 ht, step39 ht h3, ht]
  rw [show ([31, 34, 38] : List Int).contains 32 = false from by decide, show ([31, 34, 38] : List Int).contains 33 = false from by decide, show ([31, 34, 38] : List Int).contains 35 = false from by decide, show ([31, 34, 38] : List Int).contains 36 = false from by decide, show ([31, 34, 38] : List Int).contains 37 = false from by decide, show ([31, 34, 38] : List Int).contains 38 = true from by decide, show ([31, 34, 38] : List Int).contains 39 = false from by decide]
  simp only [ne_eq, reduceCtorEq, not_false_eq_true, decide_true, Bool.true_and, Bool.and_true, if_true, Bool.false_eq_true, if_false, ba_len]
  try rw [decide_eq_true (by simp : ([31, 34, 38] : List Int) ≠ []), Bool.true_and]
theorem okK_7 {m : Msg} (hk : m.kd = 7) (h1 : I64k m.en) (h2 : I64k m.fl) (h3 : I64k m.co) : okK m = (decide (m.c = ⟨#[]⟩) && (decide (m.s = ⟨#[]⟩) && (decide (m.en = 0) && (decide (m.fl = 0) && (decide (m.t.length = 0) && (decide (m.sl.length = 0) && ((decide (1 ≤ m.co) && decide (m.co ≤ 999))))))))) := by
  have ht : tagsK m.kd = [31, 34, 39] := by rw [hk]; rfl
  rw [okK_all, step32 ht, step33 ht, step34 ht (by decide), step35 ht h1, step36 ht h2, step37 ht, step38 ht, step39 ht h3, ht]
  rw [show ([31, 34, 39] : List Int).contains 32 = false from by decide, show ([31, 34, 39] : List Int).contains 33 = false from by decide, show ([31, 34, 39] : List Int).contains 35 = false from by decide, show ([31, 34, 39] : List Int).contains 36 = false from by decide, show ([31, 34, 39] : List Int).contains 37 = false from by decide, show ([31, 34, 39] : List Int).contains 38 = false from by decide, show ([31, 34, 39] : List Int).contains 39 = true from by decide]
  simp only [ne_eq, reduceCtorEq, not_false_eq_true, decide_true, Bool.true_and, Bool.and_true, if_true, Bool.false_eq_true, if_false, ba_len]
  try rw [decide_eq_true (by simp : ([31, 34, 39] : List Int) ≠ []), Bool.true_and]
end Go.Proofs.YtnfmbgmncdodkaaDoor
