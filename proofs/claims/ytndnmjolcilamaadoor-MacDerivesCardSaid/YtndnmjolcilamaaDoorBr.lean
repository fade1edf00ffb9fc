/- Regions that leave their order open, where several operations may come up; single operations in such a region. Plain lemmas, no program. -/
import Derived.Test.YtndnmjolcilamaaDoorMkd
namespace Go.Proofs.YtndnmjolcilamaaDoor
open Go.RowKit

section
variable {P : Program} {ops : Array Oper} {Q : Exit → Act → World → Prop} {md : Region.Mode} {B : Nat} {w0 : World}
/-- What is asked of an operation that may come up. -/
def Up (P : Program) (ops : Array Oper) (Q : Exit → Act → World → Prop) (md : Region.Mode) (B : Nat) (w0 : World) (fuel : Nat) (listed : Array Bool) (i : Nat) (o : Oper) (a : Act) (w : World) : Prop :=
  ∀ K : Act → World → Prop, Shut (∀ a' w', Below B w0 w' → (Below B w0 w' → wpAnyH P md ops Q (fun x => Below B w0 x) fuel (listed.setIfInBounds i true) a' w') → K a' w') → o.wp P a w K Q
theorem up_op {fuel : Nat} {listed : Array Bool} {i : Nat} {o : Oper} {a : Act} {w : World} (hi : ops[i]? = some o) (hw : Region.wanted o (yielded ops a.tmps) = true) (h : Up P ops Q md B w0 fuel listed i o a w) :
    wpOp P ops Q i (fun a' w' => Below B w0 w' ∧ wpAnyH P md ops Q (fun x => Below B w0 x) fuel (listed.setIfInBounds i true) a' w') a w := by
  unfold wpOp
  rw [hi]
  simp only [hw, if_true]
  exact .inl (h _ fun a' w' hf hh => ⟨hf, hh hf⟩)
theorem heldb_two {i j : Nat} {oi oj : Oper} {fuel : Nat} {listed : Array Bool} {a : Act} {w : World} (hr : Region.ready md ops listed = [i, j]) (hi : ops[i]? = some oi) (hj : ops[j]? = some oj)
    (hwi : Region.wanted oi (yielded ops a.tmps) = true) (hwj : Region.wanted oj (yielded ops a.tmps) = true)
    (h1 : Up P ops Q md B w0 fuel listed i oi a w) (h2 : Up P ops Q md B w0 fuel listed j oj a w) : wpAnyH P md ops Q (fun x => Below B w0 x) (fuel + 1) listed a w := by
  refine wpAnyH_all hr (by simp) fun k hk => ?_
  simp only [List.mem_cons, List.not_mem_nil, or_false] at hk
  rcases hk with rfl | rfl
  · exact up_op hi hwi h1
  · exact up_op hj hwj h2
theorem heldb_three {i j k : Nat} {oi oj ok : Oper} {fuel : Nat} {listed : Array Bool} {a : Act} {w : World} (hr : Region.ready md ops listed = [i, j, k]) (hi : ops[i]? = some oi) (hj : ops[j]? = some oj) (hk : ops[k]? = some ok)
    (hwi : Region.wanted oi (yielded ops a.tmps) = true) (hwj : Region.wanted oj (yielded ops a.tmps) = true) (hwk : Region.wanted ok (yielded ops a.tmps) = true)
    (h1 : Up P ops Q md B w0 fuel listed i oi a w) (h2 : Up P ops Q md B w0 fuel listed j oj a w) (h3 : Up P ops Q md B w0 fuel listed k ok a w) : wpAnyH P md ops Q (fun x => Below B w0 x) (fuel + 1) listed a w := by
  refine wpAnyH_all hr (by simp) fun m hm => ?_
  simp only [List.mem_cons, List.not_mem_nil, or_false] at hm
  rcases hm with rfl | rfl | rfl
  · exact up_op hi hwi h1
  · exact up_op hj hwj h2
  · exact up_op hk hwk h3
theorem heldb_four {i j k l : Nat} {oi oj ok ol : Oper} {fuel : Nat} {listed : Array Bool} {a : Act} {w : World} (hr : Region.ready md ops listed = [i, j, k, l]) (hi : ops[i]? = some oi) (hj : ops[j]? = some oj) (hk : ops[k]? = some ok) (hl : ops[l]? = some ol)
    (hwi : Region.wanted oi (yielded ops a.tmps) = true) (hwj : Region.wanted oj (yielded ops a.tmps) = true) (hwk : Region.wanted ok (yielded ops a.tmps) = true) (hwl : Region.wanted ol (yielded ops a.tmps) = true)
    (h1 : Up P ops Q md B w0 fuel listed i oi a w) (h2 : Up P ops Q md B w0 fuel listed j oj a w) (h3 : Up P ops Q md B w0 fuel listed k ok a w) (h4 : Up P ops Q md B w0 fuel listed l ol a w) : wpAnyH P md ops Q (fun x => Below B w0 x) (fuel + 1) listed a w := by
  refine wpAnyH_all hr (by simp) fun m hm => ?_
  simp only [List.mem_cons, List.not_mem_nil, or_false] at hm
  rcases hm with rfl | rfl | rfl | rfl
  · exact up_op hi hwi h1
  · exact up_op hj hwj h2
  · exact up_op hk hwk h3
  · exact up_op hl hwl h4
end

section
variable {P : Program} {w : World} {o : Oper} {d : Option Tmp} {a : Act} {K : Act → World → Prop} {Q : Exit → Act → World → Prop} {ty t e : TypeId} {n g off : Nat} {cs p : List Value}
theorem wp_allocC (hz : ∀ w, (zeroValue ty).run P w = .ok (.agg cs.toArray) w) (hd : o.dst = d) (ho : o.op = .alloc ty)
    (hk : ∀ g w', g = w.heap.size → CB w' g ty cs → w.grownBy w' none → K (a.put d (.pointer (some ⟨g, 0, none⟩))) w') : o.wp P a w K Q := by
  subst hd
  unfold Oper.wp execOp
  simp only [ho, Sem.run_bind, run_allocC hz w, Result.andThen_ok, Sem.run_pure]
  exact hk _ _ rfl (CB.new w _ _) (grown_alloc _ _ _)
theorem wp_storeC (hi : (P.info? ty).map (·.size) = some n) (hd : o.dst = d) (x y : Operand) (ho : o.op = .store ty x y) (v : Value) (hv : v.cells = p.toArray) (h1 : ∀ u ∈ p, u.oneCell' = true) (h : CB w g t cs) (hp : p.length = n) (hl : off + n ≤ cs.length)
    (hx : a.eval x = .pointer (some ⟨g, off, none⟩)) (hy : a.eval y = v)
    (hk : ∀ w', CB w' g t (over cs off p) → w.grownBy w' (some g) → K (a.put d undef) w') : o.wp P a w K Q := by
  subst hd
  unfold Oper.wp execOp
  simp only [ho, hx, hy, Instr.storeAt, Instr.sureAddr, Sem.run_bind, Sem.run_pure, Result.andThen_ok, run_storeC hi v hv h1 h hp hl]
  exact hk _ (h.over off p) (grown_setRow _ _ _)
/-- '[]byte{c}'. -/
theorem wp_lit1 (c : Int) (u : UInt8) (hc : c = (u.toNat : Int)) (_hd : o.dst = d)
    (hrun : o.wp P a w (fun a' w' => a' = a.put d (.slice (some ⟨w.heap.size, 0, none⟩) 1 1) ∧ w' = w.alloc (.cells #[.int .u8 c] e)) Q)
    (hk : ∀ g w', g = w.heap.size → RB w' w'.heap.size (some ⟨g, 0, none⟩) [u] 1 → w.grownBy w' none → K (a.put d (.slice (some ⟨g, 0, none⟩) 1 1)) w') : o.wp P a w K Q := by
  refine Oper.wp_mono (fun a' w' h => ?_) hrun
  obtain ⟨rfl, rfl⟩ := h
  exact hk _ _ rfl (RB.new1 w e u c hc _ (by rw [World.size_alloc]; exact Nat.lt_succ_self _)) (grown_alloc _ _ _)
end

theorem OwnG.lt_ {w : World} {base : Nat} {e : TypeId} {v : Value} {l : List UInt8} (h : OwnG w base e v l) : ∀ g, v.ownBlock = some g → base ≤ g ∧ g < w.heap.size := by
  obtain ⟨A, cap, _, _, h⟩ := h.shape
  exact h
theorem OwnG.base_ {w : World} {base base' : Nat} {e : TypeId} {v : Value} {l : List UInt8} (h : OwnG w base e v l) (hb : base' ≤ base) : OwnG w base' e v l :=
  h.imp id fun ⟨g, cap, cur, fz, hv, hg, r⟩ => ⟨g, cap, cur, fz, hv, Nat.le_trans hb hg, r⟩
theorem OwnG.row {w w' : World} {base : Nat} {e : TypeId} {v : Value} {l : List UInt8} {r : Option Nat} (h : OwnG w base e v l) (hg : w.grownBy w' r) (hr : ∀ g, v.ownBlock = some g → r ≠ some g) : OwnG w' base e v l := by
  rcases h with h | ⟨g, cap, cur, fz, hv, hb, h1, r⟩
  · exact .inl h
  · exact .inr ⟨g, cap, cur, fz, hv, hb, (hg.block g (Array.getElem?_eq_some_iff.1 h1).1 (fun e => hr g (by rw [hv]; rfl) e.symm)).trans h1, r⟩
theorem CB.row {w w' : World} {g : Nat} {t : TypeId} {cs : List Value} {r : Option Nat} (h : CB w g t cs) (hg : w.grownBy w' r) (hr : ∀ g', r = some g' → g' ≠ g) : CB w' g t cs := (hg.block g h.lt (fun e => hr g e.symm rfl)).trans h
theorem RB.row_ {w w' : World} {A : Option Addr} {l : List UInt8} {cap : Nat} (h : RB w w.heap.size A l cap) (hg : w.grownBy w' none) : RB w' w'.heap.size A l cap := (h.kept hg (Nat.le_refl _)).more hg.size
theorem grownR {a b c : World} {r : Option Nat} (h : a.grownBy b none) (k : b.grownBy c r) (hr : ∀ g, r = some g → a.heap.size ≤ g) : a.grownBy c none := by
  rcases r with _ | g
  · exact grown_trans' h k
  · exact none_new h k (hr g rfl)
end Go.Proofs.YtndnmjolcilamaaDoor
