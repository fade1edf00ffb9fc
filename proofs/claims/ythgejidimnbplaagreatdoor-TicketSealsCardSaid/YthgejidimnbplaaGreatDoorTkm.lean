/- What is read of what was written, of its beginnings, and of it with more behind it. Plain lemmas. -/
import Derived.Test.YthgejidimnbplaaGreatDoorTkg
import Derived.Test.YthgejidimnbplaaGreatDoorTkn
namespace Go.Proofs.YthgejidimnbplaaGreatDoor
open Go.RowKit

theorem ba_of (s : ByteArray) : ba s.data.toList = s := by
  apply ByteArray.ext
  simp [ba]
theorem i64w_small (n : Nat) (h : n ≤ 1099511627776) : i64w n = (n : Int) := by
  unfold i64w
  rw [IntKind.wrap_i64]
  omega
theorem bytes_nil {r : List UInt8} (h : splitOf r = ([], 0)) : r = [] := by
  have := joinOf_splitOf r (by rw [h])
  rw [h] at this
  simp only [joinOf, Prod.mk.injEq] at this
  exact this.1.symm
/-- Fields of one number whose bytes begin with others of that number have nothing more. -/
theorem bytes_prefix {fs gs : List Fd} {r : List UInt8} (h1 : ∀ f ∈ fs, chk f = 0) (h2 : ∀ f ∈ gs, chk f = 0) (hl : fs.length = gs.length) (h : bytesF gs ++ r = bytesF fs) : r = [] := by
  have e1 := splitOf_bytes h1
  have e2 := splitOf_bytes h2
  rw [← h, splitOf_app _ _ (by rw [e2]), e2] at e1
  by_cases hz : (splitOf r).2 = 0
  · rw [if_pos hz] at e1
    simp only [Prod.mk.injEq, and_true] at e1
    have hn : (splitOf r).1 = [] := by
      apply List.eq_nil_of_length_eq_zero
      have := congrArg List.length e1
      rw [List.length_append] at this
      omega
    exact bytes_nil (Prod.ext hn hz)
  · rw [if_neg hz] at e1
    simp only [Prod.mk.injEq] at e1
    exact absurd e1.2 hz
theorem take_allT {Y : List UInt8} {j : Nat} (h : Y.drop j = []) : Y.length ≤ j := by
  have := congrArg List.length h
  rw [List.length_drop] at this
  simp at this
  omega

/-! t -/
theorem tOk_len {lc ls : List UInt8} {st en fl : Int} (h : tOk lc ls st en fl = true) : lc.length ≤ 67 ∧ ls.length ≤ 67 := by
  simp only [tOk, Bool.and_eq_true] at h
  exact ⟨parses_len h.1, parses_len h.2.1⟩
theorem tOk_int {lc ls : List UInt8} {st en fl : Int} (h : tOk lc ls st en fl = true) : 0 ≤ st ∧ st ≤ 1099511627776 ∧ 0 ≤ en ∧ en ≤ 1099511627776 ∧ 0 ≤ fl ∧ fl ≤ 3 := by
  simp only [tOk, spanOk, timeOk, flagsOk, Bool.and_eq_true, decide_eq_true_eq] at h
  omega
theorem tBytes_chk {lc ls k : List UInt8} {st en fl : Int} (h : tOk lc ls st en fl = true) (hk : k.length = 16) : ∀ f ∈ tFields lc ls k st.toNat en.toNat fl.toNat, chk f = 0 :=
  tFields_chk _ _ _ _ _ _ (by have := tOk_len h; omega) (by have := tOk_len h; omega) hk
theorem tReads_fields {l : List UInt8} (h : tReads l = true) : ∃ gs : List Fd, gs.length = 6 ∧ (∀ f ∈ gs, chk f = 0) ∧ bytesF gs = l := by
  simp only [tReads, Bool.and_eq_true, decide_eq_true_eq] at h
  exact ⟨_, rfl, tBytes_chk h.2.1 (keyB_length _), h.2.2⟩
theorem tReads_cut {lc ls k : List UInt8} {st en fl : Int} (h : tOk lc ls st en fl = true) (hk : k.length = 16) {j : Nat} (hj : j < (bytesF (tFields lc ls k st.toNat en.toNat fl.toNat)).length) : tReads ((bytesF (tFields lc ls k st.toNat en.toNat fl.toNat)).take j) = false := by
  cases hr : tReads ((bytesF (tFields lc ls k st.toNat en.toNat fl.toNat)).take j) with
  | false => rfl
  | true =>
    obtain ⟨gs, h1, h2, h3⟩ := tReads_fields hr
    have h4 := bytes_prefix (r := (bytesF (tFields lc ls k st.toNat en.toNat fl.toNat)).drop j) (tBytes_chk h hk) h2 (by rw [h1]; rfl) (by rw [h3, List.take_append_drop])
    have := take_allT h4
    omega
theorem tReads_more {lc ls k : List UInt8} {st en fl : Int} (h : tOk lc ls st en fl = true) (hk : k.length = 16) {m : List UInt8} (hm : m ≠ []) : tReads (bytesF (tFields lc ls k st.toNat en.toNat fl.toNat) ++ m) = false := by
  cases hr : tReads (bytesF (tFields lc ls k st.toNat en.toNat fl.toNat) ++ m) with
  | false => rfl
  | true =>
    obtain ⟨gs, h1, h2, h3⟩ := tReads_fields hr
    exact absurd (bytes_prefix h2 (tBytes_chk h hk) (by rw [h1]; rfl) h3.symm) hm
theorem tVals_back {lc ls k : List UInt8} {st en fl : Int} (h : tOk lc ls st en fl = true) (hk : k.length = 16) : valuesOf (bytesF (tFields lc ls k st.toNat en.toNat fl.toNat)) [1, 2, 3, 4, 5, 6] = ([lc, ls, k, numB st.toNat, numB en.toNat, numB fl.toNat], 0) := valuesOf_same (tBytes_chk h hk)
theorem tMade_back {lc ls k : List UInt8} {st en fl : Int} (h : tOk lc ls st en fl = true) (hk : k.length = 16) : tMade [lc, ls, k, numB st.toNat, numB en.toNat, numB fl.toNat] = tcells (ba lc) (ba ls) k st en fl := by
  have hi := tOk_int h
  have est : i64w (readOf (numB st.toNat)).1 = st := by rw [readOf_numB _ (by omega), i64w_small _ (by omega)]; omega
  have een : i64w (readOf (numB en.toNat)).1 = en := by rw [readOf_numB _ (by omega), i64w_small _ (by omega)]; omega
  have efl : i64w (readOf (numB fl.toNat)).1 = fl := by rw [readOf_numB _ (by omega), i64w_small _ (by omega)]; omega
  show tcells (ba lc) (ba ls) (keyB k) (i64w (readOf (numB st.toNat)).1) (i64w (readOf (numB en.toNat)).1) (i64w (readOf (numB fl.toNat)).1) = _
  rw [keyB_self k hk, est, een, efl]
theorem tReads_back {lc ls k : List UInt8} {st en fl : Int} (h : tOk lc ls st en fl = true) (hk : k.length = 16) : tReads (bytesF (tFields lc ls k st.toNat en.toNat fl.toNat)) = true := by
  have hi := tOk_int h
  have hv := tVals_back h hk (k := k)
  have est : i64w (readOf (numB st.toNat)).1 = st := by rw [readOf_numB _ (by omega), i64w_small _ (by omega)]; omega
  have een : i64w (readOf (numB en.toNat)).1 = en := by rw [readOf_numB _ (by omega), i64w_small _ (by omega)]; omega
  have efl : i64w (readOf (numB fl.toNat)).1 = fl := by rw [readOf_numB _ (by omega), i64w_small _ (by omega)]; omega
  have h1 : tOkV [lc, ls, k, numB st.toNat, numB en.toNat, numB fl.toNat] = true := by
    show tOk lc ls (i64w (readOf (numB st.toNat)).1) (i64w (readOf (numB en.toNat)).1) (i64w (readOf (numB fl.toNat)).1) = true
    rw [est, een, efl]
    exact h
  have h2 : tBytesV [lc, ls, k, numB st.toNat, numB en.toNat, numB fl.toNat] = bytesF (tFields lc ls k st.toNat en.toNat fl.toNat) := by
    show bytesF (tFields lc ls (keyB k) (i64w (readOf (numB st.toNat)).1).toNat (i64w (readOf (numB en.toNat)).1).toNat (i64w (readOf (numB fl.toNat)).1).toNat) = _
    rw [keyB_self k hk, est, een, efl]
  rw [tReads, tVals, hv, h1, h2]
  simp

/-! a -/
theorem aOk_len {lc : List UInt8} {ti : Int} (h : aOk lc ti = true) : lc.length ≤ 67 := by
  simp only [aOk, Bool.and_eq_true] at h
  exact parses_len h.1
theorem aOk_int {lc : List UInt8} {ti : Int} (h : aOk lc ti = true) : 0 ≤ ti ∧ ti ≤ 1099511627776 := by
  simp only [aOk, timeOk, Bool.and_eq_true, decide_eq_true_eq] at h
  omega
theorem aBytes_chk {lc k : List UInt8} {ti : Int} {no : Nat} (h : aOk lc ti = true) (hk : k.length = 16) : ∀ f ∈ aFields lc k ti.toNat no, chk f = 0 :=
  aFields_chk _ _ _ _ (by have := aOk_len h; omega) hk
theorem aReads_fields {l : List UInt8} (h : aReads l = true) : ∃ gs : List Fd, gs.length = 4 ∧ (∀ f ∈ gs, chk f = 0) ∧ bytesF gs = l := by
  simp only [aReads, Bool.and_eq_true, decide_eq_true_eq] at h
  exact ⟨_, rfl, aBytes_chk h.2.1 (keyB_length _), h.2.2⟩
theorem aReads_cut {lc k : List UInt8} {ti : Int} {no : Nat} (h : aOk lc ti = true) (hk : k.length = 16) {j : Nat} (hj : j < (bytesF (aFields lc k ti.toNat no)).length) : aReads ((bytesF (aFields lc k ti.toNat no)).take j) = false := by
  cases hr : aReads ((bytesF (aFields lc k ti.toNat no)).take j) with
  | false => rfl
  | true =>
    obtain ⟨gs, h1, h2, h3⟩ := aReads_fields hr
    have h4 := bytes_prefix (r := (bytesF (aFields lc k ti.toNat no)).drop j) (aBytes_chk h hk) h2 (by rw [h1]; rfl) (by rw [h3, List.take_append_drop])
    have := take_allT h4
    omega
theorem aReads_more {lc k : List UInt8} {ti : Int} {no : Nat} (h : aOk lc ti = true) (hk : k.length = 16) {m : List UInt8} (hm : m ≠ []) : aReads (bytesF (aFields lc k ti.toNat no) ++ m) = false := by
  cases hr : aReads (bytesF (aFields lc k ti.toNat no) ++ m) with
  | false => rfl
  | true =>
    obtain ⟨gs, h1, h2, h3⟩ := aReads_fields hr
    exact absurd (bytes_prefix h2 (aBytes_chk h hk) (by rw [h1]; rfl) h3.symm) hm
theorem aVals_back {lc k : List UInt8} {ti : Int} {no : Nat} (h : aOk lc ti = true) (hk : k.length = 16) : valuesOf (bytesF (aFields lc k ti.toNat no)) [11, 12, 13, 14] = ([lc, numB ti.toNat, numB no, k], 0) := valuesOf_same (aBytes_chk h hk)
theorem aMade_back {lc k : List UInt8} {ti : Int} {no : Nat} (h : aOk lc ti = true) (hk : k.length = 16) (hno : no < 18446744073709551616) : aMade [lc, numB ti.toNat, numB no, k] = acells (ba lc) k ti (no : Int) := by
  have hi := aOk_int h
  have eti : i64w (readOf (numB ti.toNat)).1 = ti := by rw [readOf_numB _ (by omega), i64w_small _ (by omega)]; omega
  have eno : ((readOf (numB no)).1 : Int) = (no : Int) := by rw [readOf_numB _ hno]
  show acells (ba lc) (keyB k) (i64w (readOf (numB ti.toNat)).1) ((readOf (numB no)).1 : Int) = _
  rw [keyB_self k hk, eti, eno]
theorem aReads_back {lc k : List UInt8} {ti : Int} {no : Nat} (h : aOk lc ti = true) (hk : k.length = 16) (hno : no < 18446744073709551616) : aReads (bytesF (aFields lc k ti.toNat no)) = true := by
  have hi := aOk_int h
  have hv := aVals_back h hk (k := k) (no := no)
  have eti : i64w (readOf (numB ti.toNat)).1 = ti := by rw [readOf_numB _ (by omega), i64w_small _ (by omega)]; omega
  have eno : (readOf (numB no)).1 = no := by rw [readOf_numB _ hno]
  have h1 : aOkV [lc, numB ti.toNat, numB no, k] = true := by
    show aOk lc (i64w (readOf (numB ti.toNat)).1) = true
    rw [eti]
    exact h
  have h2 : aBytesV [lc, numB ti.toNat, numB no, k] = bytesF (aFields lc k ti.toNat no) := by
    show bytesF (aFields lc (keyB k) (i64w (readOf (numB ti.toNat)).1).toNat (readOf (numB no)).1) = _
    rw [keyB_self k hk, eti, eno]
  rw [aReads, aVals, hv, h1, h2]
  simp

/-! g -/
theorem gOk_len {ls : List UInt8} {st en fl : Int} (h : gOk ls st en fl = true) : ls.length ≤ 67 := by
  simp only [gOk, Bool.and_eq_true] at h
  exact parses_len h.1
theorem gOk_int {ls : List UInt8} {st en fl : Int} (h : gOk ls st en fl = true) : 0 ≤ st ∧ st ≤ 1099511627776 ∧ 0 ≤ en ∧ en ≤ 1099511627776 ∧ 0 ≤ fl ∧ fl ≤ 3 := by
  simp only [gOk, spanOk, timeOk, flagsOk, Bool.and_eq_true, decide_eq_true_eq] at h
  omega
theorem gBytes_chk {ls k : List UInt8} {st en fl : Int} {no : Nat} (h : gOk ls st en fl = true) (hk : k.length = 16) : ∀ f ∈ gFields ls k no st.toNat en.toNat fl.toNat, chk f = 0 :=
  gFields_chk _ _ _ _ _ _ (by have := gOk_len h; omega) hk
theorem gReads_fields {l : List UInt8} (h : gReads l = true) : ∃ gs : List Fd, gs.length = 6 ∧ (∀ f ∈ gs, chk f = 0) ∧ bytesF gs = l := by
  simp only [gReads, Bool.and_eq_true, decide_eq_true_eq] at h
  exact ⟨_, rfl, gBytes_chk h.2.1 (keyB_length _), h.2.2⟩
theorem gReads_cut {ls k : List UInt8} {st en fl : Int} {no : Nat} (h : gOk ls st en fl = true) (hk : k.length = 16) {j : Nat} (hj : j < (bytesF (gFields ls k no st.toNat en.toNat fl.toNat)).length) : gReads ((bytesF (gFields ls k no st.toNat en.toNat fl.toNat)).take j) = false := by
  cases hr : gReads ((bytesF (gFields ls k no st.toNat en.toNat fl.toNat)).take j) with
  | false => rfl
  | true =>
    obtain ⟨gs, h1, h2, h3⟩ := gReads_fields hr
    have h4 := bytes_prefix (r := (bytesF (gFields ls k no st.toNat en.toNat fl.toNat)).drop j) (gBytes_chk h hk) h2 (by rw [h1]; rfl) (by rw [h3, List.take_append_drop])
    have := take_allT h4
    omega
theorem gReads_more {ls k : List UInt8} {st en fl : Int} {no : Nat} (h : gOk ls st en fl = true) (hk : k.length = 16) {m : List UInt8} (hm : m ≠ []) : gReads (bytesF (gFields ls k no st.toNat en.toNat fl.toNat) ++ m) = false := by
  cases hr : gReads (bytesF (gFields ls k no st.toNat en.toNat fl.toNat) ++ m) with
  | false => rfl
  | true =>
    obtain ⟨gs, h1, h2, h3⟩ := gReads_fields hr
    exact absurd (bytes_prefix h2 (gBytes_chk h hk) (by rw [h1]; rfl) h3.symm) hm
theorem gVals_back {ls k : List UInt8} {st en fl : Int} {no : Nat} (h : gOk ls st en fl = true) (hk : k.length = 16) : valuesOf (bytesF (gFields ls k no st.toNat en.toNat fl.toNat)) [21, 22, 23, 24, 25, 26] = ([ls, k, numB no, numB st.toNat, numB en.toNat, numB fl.toNat], 0) := valuesOf_same (gBytes_chk h hk)
theorem gMade_back {ls k : List UInt8} {st en fl : Int} {no : Nat} (h : gOk ls st en fl = true) (hk : k.length = 16) (hno : no < 18446744073709551616) : gMade [ls, k, numB no, numB st.toNat, numB en.toNat, numB fl.toNat] = gcells (ba ls) k (no : Int) st en fl := by
  have hi := gOk_int h
  have est : i64w (readOf (numB st.toNat)).1 = st := by rw [readOf_numB _ (by omega), i64w_small _ (by omega)]; omega
  have een : i64w (readOf (numB en.toNat)).1 = en := by rw [readOf_numB _ (by omega), i64w_small _ (by omega)]; omega
  have efl : i64w (readOf (numB fl.toNat)).1 = fl := by rw [readOf_numB _ (by omega), i64w_small _ (by omega)]; omega
  have eno : ((readOf (numB no)).1 : Int) = (no : Int) := by rw [readOf_numB _ hno]
  show gcells (ba ls) (keyB k) ((readOf (numB no)).1 : Int) (i64w (readOf (numB st.toNat)).1) (i64w (readOf (numB en.toNat)).1) (i64w (readOf (numB fl.toNat)).1) = _
  rw [keyB_self k hk, eno, est, een, efl]
theorem gReads_back {ls k : List UInt8} {st en fl : Int} {no : Nat} (h : gOk ls st en fl = true) (hk : k.length = 16) (hno : no < 18446744073709551616) : gReads (bytesF (gFields ls k no st.toNat en.toNat fl.toNat)) = true := by
  have hi := gOk_int h
  have hv := gVals_back h hk (k := k) (no := no)
  have est : i64w (readOf (numB st.toNat)).1 = st := by rw [readOf_numB _ (by omega), i64w_small _ (by omega)]; omega
  have een : i64w (readOf (numB en.toNat)).1 = en := by rw [readOf_numB _ (by omega), i64w_small _ (by omega)]; omega
  have efl : i64w (readOf (numB fl.toNat)).1 = fl := by rw [readOf_numB _ (by omega), i64w_small _ (by omega)]; omega
  have eno : (readOf (numB no)).1 = no := by rw [readOf_numB _ hno]
  have h1 : gOkV [ls, k, numB no, numB st.toNat, numB en.toNat, numB fl.toNat] = true := by
    show gOk ls (i64w (readOf (numB st.toNat)).1) (i64w (readOf (numB en.toNat)).1) (i64w (readOf (numB fl.toNat)).1) = true
    rw [est, een, efl]
    exact h
  have h2 : gBytesV [ls, k, numB no, numB st.toNat, numB en.toNat, numB fl.toNat] = bytesF (gFields ls k no st.toNat en.toNat fl.toNat) := by
    show bytesF (gFields ls (keyB k) (readOf (numB no)).1 (i64w (readOf (numB st.toNat)).1).toNat (i64w (readOf (numB en.toNat)).1).toNat (i64w (readOf (numB fl.toNat)).1).toNat) = _
    rw [keyB_self k hk, eno, est, een, efl]
  rw [gReads, gVals, hv, h1, h2]
  simp
end Go.Proofs.YthgejidimnbplaaGreatDoor
