/- The table of the rounds' words, out of what the rows lay. -/
import Derived.Test.YtaanhancjmigdaaDoorWr
import Derived.Test.YtaanhancjmigdaaDoorMA
namespace Go.Proofs.YtaanhancjmigdaaDoor.NameLaid
open Go.ChangeShapes Go.WideShapes Go.ChangeAt Go.RowKit
set_option linter.unusedVariables false

theorem gK : Tryd.prog.globalNamed "gangway/sha.roundWords" = some 0 := by kernel_rfl
theorem tK : (Tryd.prog.globals[0]?).map (·.type) = some 106 := by kernel_rfl
theorem laidK : (Rows.laid_gangway_sha_roundWords : DataW Unit) = .agg (roundK.map fun u => .lit (.int .u32 (u.toNat : Int))) := by kernel_rfl
theorem of_laid {W : World} (h : laidMetH Tryd.prog laids W) : TB W := by
  rw [MakeChecks.laidMetH_plain _ _ _ (by kernel_rfl)] at h
  obtain ⟨ps, ⟨g1, t1, cs1, f1, p1, q1, hg1, ht1, hv1, hd1, _, _⟩, _⟩ := h
  obtain rfl := Option.some.inj (gK.symm.trans hg1)
  obtain rfl := Option.some.inj (tK.symm.trans ht1)
  obtain ⟨xs, m1, rfl, hx1, hlen, hn3, hel⟩ := DataW.trod_array Tryd.underlying106 hd1
  intro k u hu
  have hk : k < 64 := (List.getElem?_eq_some_iff.1 hu).1
  have h0 := hel k hk
  obtain ⟨x, hx⟩ : ∃ x, xs[k]? = some x := ⟨_, List.getElem?_eq_getElem (by rw [hn3]; exact hk)⟩
  rw [hx] at h0
  obtain ⟨z, e1, e2, _⟩ := DataW.trod_int Tryd.underlying101 h0
  rw [laidK] at hx1
  simp only [Prod.mk.injEq, DataW.agg.injEq] at hx1
  have hm : (roundK.map fun u => (DataW.lit (.int .u32 (u.toNat : Int)) : DataW Unit))[k]? = (xs.map fun x => x.1)[k]? := by rw [hx1.1]
  rw [List.getElem?_map, List.getElem?_map, hu, hx, e2] at hm
  have hz : z = (u.toNat : Int) := by simpa using hm.symm
  subst hz
  have c46 : Tryd.prog.cellsOf 101 = 1 := by kernel_rfl
  rw [c46, Nat.mul_one] at e1
  have hc := World.var?_cell hg1 hv1 k
  have hcs : cs1[k]? = some (.int .u32 (u.toNat : Int)) := by
    have h2 : ((cs1.toList.drop k).take 1)[0]? = some (.int .u32 (u.toNat : Int)) := by rw [e1]; rfl
    rw [List.getElem?_take_of_lt (by omega), List.getElem?_drop, Nat.add_zero] at h2
    rw [← Array.getElem?_toList]
    exact h2
  rw [hcs] at hc
  exact hc
end Go.Proofs.YtaanhancjmigdaaDoor.NameLaid
