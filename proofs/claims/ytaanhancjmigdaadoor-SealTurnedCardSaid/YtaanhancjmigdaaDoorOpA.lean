/- An array of bytes by value, taken apart. Plain lemmas. -/
import Derived.Test.YtaanhancjmigdaaDoorBlw
import Derived.OpenShut
namespace Go.Proofs.YtaanhancjmigdaaDoor
open Go.RowKit

theorem okWide_arr {P : Program} {w : World} {r : Reach} {base : Nat} {t e : TypeId} {n : Nat} {v : Value} (ht : P.underlying t = some (.array n e)) (h : Value.okWide P w r base t v) : ∃ cs, v = .agg cs ∧ cs.size = P.cellsOf t := by
  unfold Value.okWide at h
  rw [ht] at h
  obtain ⟨cs, h1, h2, _⟩ := h
  exact ⟨cs, h1, h2⟩

def byteOf (v : Value) : UInt8 := match v with
  | .int _ n => UInt8.ofNat n.toNat
  | _ => 0

theorem open_arrB {H : Type} {enc : TypeId × Value → H} {P : Program} {w : World} {base : Nat} {spare : Nat → Bool} {held : Bool} {r : Reach} {b0 : Nat} {t e : TypeId} {n : Nat} {v : Value} {d : DataW H} {p : List MemPlace}
    (ht : P.underlying t = some (.array n e)) (he : P.underlying e = some (.int .u8)) (hce : P.cellsOf e = 1) (hct : P.cellsOf t = n) (hv : Value.okWide P w r b0 t v) (h : DataW.Trod enc P w base spare held t v d p) :
    ∃ l : List UInt8, v = .agg (bcells l).toArray ∧ l.length = n := by
  obtain ⟨cs, rfl, hsz⟩ := okWide_arr ht hv
  obtain ⟨fuel, hf⟩ := h
  obtain ⟨xs, m, _, _, hlen, hxl, hg⟩ := DataW.trod_array ht hf
  rw [hct] at hsz
  simp only [Value.cells] at hg
  refine ⟨cs.toList.map byteOf, ?_, by simp [hsz]⟩
  congr 1
  apply Array.ext
  · simp [bcells]
  · intro i h1 h2
    have hi : i < n := by omega
    have hx := hg i hi
    rw [hce, Nat.mul_one] at hx
    have hd : (cs.toList.drop i).take 1 = [cs[i]] := by
      rw [List.drop_eq_getElem_cons (by simpa using h1)]
      simp
    rw [hd, List.getElem?_eq_getElem (by omega)] at hx
    obtain ⟨k, hk, _, hwf⟩ := DataW.trod_int he hx
    simp only [List.cons.injEq, and_true] at hk
    have hb := bounds_u8 hwf
    have hk2 : (bcells (cs.toList.map byteOf)).toArray[i]'h2 = Value.int .u8 ((byteOf cs[i]).toNat : Int) := by simp [bcells]
    rw [hk2, hk]
    congr 1
    simp only [byteOf]
    rw [UInt8.toNat_ofNat']
    omega
end Go.Proofs.YtaanhancjmigdaaDoor
