/- The walks of ticket's read at its three types, and of Read, ReadAuth and ReadGrant. -/
import Derived.Test.YtnfmbgmncdodkaaDoorTkr
namespace Go.Proofs.YtnfmbgmncdodkaaDoor
open Go.RowKit

/-- What the ones that read answer. -/
def Rd (w : World) (ok : Bool) (cs zs : List Value) (e : Ending) (w' : World) : Prop :=
  w.grownBy w' none ∧ if ok = true then e = .returned (.tuple #[.agg cs.toArray, .int .i64 0]) else e = .returned (.tuple #[.agg zs.toArray, .int .i64 21])
theorem Rd.no {w w' : World} {cs zs : List Value} {e : Ending} {ok : Bool} (ho : ok = false) (hg : w.grownBy w' none) (h : e = .returned (.tuple #[.agg zs.toArray, .int .i64 21])) : Rd w ok cs zs e w' := ⟨hg, by rw [if_neg (by rw [ho]; simp)]; exact h⟩
theorem Rd.yes {w w' : World} {cs zs : List Value} {e : Ending} {ok : Bool} (ho : ok = true) (hg : w.grownBy w' none) (h : e = .returned (.tuple #[.agg cs.toArray, .int .i64 0])) : Rd w ok cs zs e w' := ⟨hg, by rw [if_pos ho]; exact h⟩
theorem readOf_lt (l : List UInt8) : (readOf l).1 < 18446744073709551616 := by
  unfold readOf
  split
  · rename_i h
    have h1 := foldl_lt l 0 0 (by omega)
    have h2 : 256 ^ (0 + l.length) ≤ 256 ^ 8 := Nat.pow_le_pow_right (by omega) (by omega)
    have h3 : (256 : Nat) ^ 8 = 18446744073709551616 := by decide
    simp only [numOf]
    omega
  · simp
theorem getD_le {vs : List (List UInt8)} {n : Nat} (h : ∀ v ∈ vs, v.length ≤ n) (i : Nat) : (vs.getD i []).length ≤ n := by
  rw [List.getD_eq_getElem?_getD]
  cases hv : vs[i]? with
  | none => simp
  | some v => simpa using h v (List.mem_of_getElem? hv)
theorem whole_take {cs : List Value} {n : Nat} (h : cs.length = n) : (cs.drop 0).take n = cs := by rw [List.drop_zero]; exact List.take_of_length_le (by omega)

/-! Ticket. -/
def tOkV (vs : List (List UInt8)) : Bool := tOk (vs.getD 0 []) (vs.getD 1 []) (i64w (readOf (vs.getD 3 [])).1) (i64w (readOf (vs.getD 4 [])).1) (i64w (readOf (vs.getD 5 [])).1)
def tBytesV (vs : List (List UInt8)) : List UInt8 := bytesF (tFields (vs.getD 0 []) (vs.getD 1 []) (keyB (vs.getD 2 [])) (i64w (readOf (vs.getD 3 [])).1).toNat (i64w (readOf (vs.getD 4 [])).1).toNat (i64w (readOf (vs.getD 5 [])).1).toNat)
def tVals (l : List UInt8) : List (List UInt8) := (valuesOf l [1, 2, 3, 4, 5, 6]).1
/-- Are bytes such a thing's? -/
def tReads (l : List UInt8) : Bool := decide ((valuesOf l [1, 2, 3, 4, 5, 6]).2 = 0) && (tOkV (tVals l) && decide (tBytesV (tVals l) = l))
theorem tMade_one (vs : List (List UInt8)) : ∀ u ∈ tMade vs, u.oneCell' = true := tcellsr_one _ _ _ _ _ _
theorem tZero_one : ∀ u ∈ tZero, u.oneCell' = true := tcellsr_one _ _ _ _ _ _

/-! Auth. -/
def aOkV (vs : List (List UInt8)) : Bool := aOk (vs.getD 0 []) (i64w (readOf (vs.getD 1 [])).1)
def aBytesV (vs : List (List UInt8)) : List UInt8 := bytesF (aFields (vs.getD 0 []) (keyB (vs.getD 3 [])) (i64w (readOf (vs.getD 1 [])).1).toNat (readOf (vs.getD 2 [])).1)
def aVals (l : List UInt8) : List (List UInt8) := (valuesOf l [11, 12, 13, 14]).1
/-- Are bytes such a thing's? -/
def aReads (l : List UInt8) : Bool := decide ((valuesOf l [11, 12, 13, 14]).2 = 0) && (aOkV (aVals l) && decide (aBytesV (aVals l) = l))
theorem aMade_one (vs : List (List UInt8)) : ∀ u ∈ aMade vs, u.oneCell' = true := acellsr_one _ _ _ _
theorem aZero_one : ∀ u ∈ aZero, u.oneCell' = true := acellsr_one _ _ _ _

/-! Grant. -/
def gOkV (vs : List (List UInt8)) : Bool := gOk (vs.getD 0 []) (i64w (readOf (vs.getD 3 [])).1) (i64w (readOf (vs.getD 4 [])).1) (i64w (readOf (vs.getD 5 [])).1)
def gBytesV (vs : List (List UInt8)) : List UInt8 := bytesF (gFields (vs.getD 0 []) (keyB (vs.getD 1 [])) (readOf (vs.getD 2 [])).1 (i64w (readOf (vs.getD 3 [])).1).toNat (i64w (readOf (vs.getD 4 [])).1).toNat (i64w (readOf (vs.getD 5 [])).1).toNat)
def gVals (l : List UInt8) : List (List UInt8) := (valuesOf l [21, 22, 23, 24, 25, 26]).1
/-- Are bytes such a thing's? -/
def gReads (l : List UInt8) : Bool := decide ((valuesOf l [21, 22, 23, 24, 25, 26]).2 = 0) && (gOkV (gVals l) && decide (gBytesV (gVals l) = l))
theorem gmadeW (vs : List (List UInt8)) (w : World) (hM : ML w) (hle : ∀ v ∈ vs, v.length ≤ 1000000) :
    Calls Tryd.prog 51 #[.agg (gMade vs).toArray] w fun e w' => Wrote w (gOkV vs) (gBytesV vs) e w' :=
  gwrite_any (ba (vs.getD 0 [])) (vs.getD 0 []) (keyB (vs.getD 1 [])) (i64w (readOf (vs.getD 3 [])).1) (i64w (readOf (vs.getD 4 [])).1) (i64w (readOf (vs.getD 5 [])).1) (readOf (vs.getD 2 [])).1 w hM rfl (keyB_length _) (getD_le hle 0) (readOf_lt _)
theorem gMade_one (vs : List (List UInt8)) : ∀ u ∈ gMade vs, u.oneCell' = true := gcellsr_one _ _ _ _ _ _
theorem gZero_one : ∀ u ∈ gZero, u.oneCell' = true := gcellsr_one _ _ _ _ _ _

end Go.Proofs.YtnfmbgmncdodkaaDoor
