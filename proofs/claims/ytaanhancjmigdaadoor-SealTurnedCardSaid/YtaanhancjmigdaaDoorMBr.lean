/- Regions that leave their order open, where several operations may come up; single operations in such a region. Plain lemmas, no program. -/
import Derived.Test.YtaanhancjmigdaaDoorMC
import Derived.Test.YtaanhancjmigdaaDoorSea
namespace Go.Proofs.YtaanhancjmigdaaDoor
open Go.RowKit

section
variable {P : Program} {ops : Array Oper} {Q : Exit → Act → World → Prop} {md : Region.Mode} {B : Nat} {w0 : World}
theorem heldb_three {i j k : Nat} {oi oj ok : Oper} {fuel : Nat} {listed : Array Bool} {a : Act} {w : World} (hr : Region.ready md ops listed = [i, j, k]) (hi : ops[i]? = some oi) (hj : ops[j]? = some oj) (hk : ops[k]? = some ok)
    (hwi : Region.wanted oi (yielded ops a.tmps) = true) (hwj : Region.wanted oj (yielded ops a.tmps) = true) (hwk : Region.wanted ok (yielded ops a.tmps) = true)
    (h1 : Up P ops Q md B w0 fuel listed i oi a w) (h2 : Up P ops Q md B w0 fuel listed j oj a w) (h3 : Up P ops Q md B w0 fuel listed k ok a w) : wpAnyH P md ops Q (fun x => Below B w0 x) (fuel + 1) listed a w := by
  refine wpAnyH_all hr (by simp) fun m hm => ?_
  simp only [List.mem_cons, List.not_mem_nil, or_false] at hm
  rcases hm with rfl | rfl | rfl
  · exact up_op hi hwi h1
  · exact up_op hj hwj h2
  · exact up_op hk hwk h3
theorem heldb_four {i j k l : Nat} {oi oj ok ol : Oper} {fuel : Nat} {listed : Array Bool} {a : Act} {w : World} (hr : Region.ready md ops listed = [i, j, k, l]) (hi : ops[i]? = some oi) (hj : ops[j]? = some oj) (hk : ops[k]? = some ok) (hl : ops[l]? = some ol)
    (hwi : Region.wanted oi (yielded ops a.tmps) = true) (hwj : Region.wanted oj (yielded ops a.tmps) = true) (hwk : Region.wanted ok (yielded ops a.tmps) = true) (hwl : Region.wanted ol (yielded ops a.tmps) = true)
    (h1 : Up P ops Q md B w0 fuel listed i oi a w) (h2 : Up P ops Q md B w0 fuel listed j oj a w) (h3 : Up P ops Q md B w0 fuel listed k ok a w) (h4 : Up P ops Q md B w0 fuel listed l ol a w) : wpAnyH P md ops Q (fun x => Below B w0 x) (fuel + 1) listed a w := by
  refine wpAnyH_all hr (by simp) fun m hm => ?_
  simp only [List.mem_cons, List.not_mem_nil, or_false] at hm
  rcases hm with rfl | rfl | rfl | rfl
  · exact up_op hi hwi h1
  · exact up_op hj hwj h2
  · exact up_op hk hwk h3
  · exact up_op hl hwl h4
end

section
variable {P : Program} {w : World} {o : Oper} {d : Option Tmp} {a : Act} {K : Act → World → Prop} {Q : Exit → Act → World → Prop} {ty t e : TypeId} {n g off : Nat} {cs p : List Value}
theorem wp_allocCM (hz : ∀ w, (zeroValue ty).run P w = .ok (.agg cs.toArray) w) (hd : o.dst = d) (ho : o.op = .alloc ty)
    (hk : ∀ g w', g = w.heap.size → CB w' g ty cs → w.grownBy w' none → K (a.put d (.pointer (some ⟨g, 0, none⟩))) w') : o.wp P a w K Q := by
  subst hd
  unfold Oper.wp execOp
  simp only [ho, Sem.run_bind, run_allocC hz w, Result.andThen_ok, Sem.run_pure]
  exact hk _ _ rfl (CB.new w _ _) (grown_alloc _ _ _)
/-- '[]byte{c}'. -/
theorem wp_lit1M (c : Int) (u : UInt8) (hc : c = (u.toNat : Int)) (_hd : o.dst = d)
    (hrun : o.wp P a w (fun a' w' => a' = a.put d (.slice (some ⟨w.heap.size, 0, none⟩) 1 1) ∧ w' = w.alloc (.cells #[.int .u8 c] e)) Q)
    (hk : ∀ g w', g = w.heap.size → RB w' w'.heap.size (some ⟨g, 0, none⟩) [u] 1 → w.grownBy w' none → K (a.put d (.slice (some ⟨g, 0, none⟩) 1 1)) w') : o.wp P a w K Q := by
  refine Oper.wp_mono (fun a' w' h => ?_) hrun
  obtain ⟨rfl, rfl⟩ := h
  exact hk _ _ rfl (RB.new1 w e u c hc _ (by rw [World.size_alloc]; exact Nat.lt_succ_self _)) (grown_alloc _ _ _)
end

end Go.Proofs.YtaanhancjmigdaaDoor
