/- The document's memory of authenticators: its list, its Restart; authenticators held against each other. -/
import Derived.Test.YtgamlioahdbikaaRyi
import Derived.Test.YtgamlioahdbikaaRow
import Derived.Test.YtgamlioahdbikaaInm
namespace Go.Proofs.Ytgamlioahdbikaa
open Go.ChangeShapes Go.WideShapes Go.RowKit Go.Maps

theorem wp_eqV {P : Program} {o : Oper} {a : Act} {w : World} {K : Act → World → Prop} {Q : Exit → Act → World → Prop} {ty k : TypeId} {A B : Array Value} {c : Bool} (hgt : P.eqGuardType P.depth ty = false) (x y : Operand) (ho : o.op = .binOp .eql ty x y k) (hx : a.eval x = .agg A) (hy : a.eval y = .agg B) (hE : ∀ w, (binOp .eql ty (.agg A) (.agg B)).run P w = .ok (.bool c) w) (hk : K (a.put o.dst (.bool c)) w) : o.wp P a w K Q := by
  unfold Oper.wp execOp
  simp only [ho, hx, hy, Sem.run_bind, Sem.run_pure, Result.andThen_ok, hE, run_eqGuard_agg w .eql ty x y A B hgt]
  exact hk
/-- The duty of an operation whose guard is met, or isn't. -/
theorem duty_if {P : Program} {ops : Array Oper} {Q : Exit → Act → World → Prop} {a0 : Act} {T : World → World → Prop} {G : World → Prop} {F : Nat → Value → World → Prop} {i j : Nat} {b : Bool} {d : Tmp} {o : Oper} (ho : ops[i]? = some o) (hg : o.guard = some (j, b)) (hj : Inv.dstOf ops j = some d) (hdep : Inv.afterB ops i j = true) (hb : ∀ v w, F j v w → v = .bool b)
    (h : ∀ (L : Nat → Bool) (vs : Nat → Value) (a : Act) (w : World), G w →
      (∀ e, Inv.afterB ops i e = true → L e = true) → (∀ j e, L j = true → Inv.afterB ops j e = true → L e = true) →
      (∀ j, L j = true → F j (vs j) w) → (∀ j d, L j = true → Inv.dstOf ops j = some d → a.eval (.tmp d) = vs j) → (∀ d, Inv.outB ops d = true → a.eval (.tmp d) = a0.eval (.tmp d)) →
      ∀ K : Act → World → Prop, Shut (∀ v w', T w w' → F i v w' → K (a.put o.dst v) w') → o.wp P a w K Q) : Inv.Duty P ops Q a0 T G F i := by
  intro o' ho' L vs a w h1 h2 h3 h4 h5 h6
  rw [ho] at ho'
  injection ho' with ho'
  subst ho'
  have hL := h2 j hdep
  have h7 := (h5 j d hL hj).trans (hb _ _ (h4 j hL))
  have hd : a.tmps[d]? = some (.bool b) := by
    have h8 : a.tmps.getD d undef = .bool b := h7
    rw [Array.getD_eq_getD_getElem?] at h8
    cases hq : a.tmps[d]? with
    | none => rw [hq] at h8; exact absurd h8 (by simp [undef])
    | some v => rw [hq] at h8; simpa using h8
  have hw : Region.wanted o (yielded ops a.tmps) = true := by
    unfold Inv.dstOf at hj
    simp [Region.wanted, hg, yielded, hj, hd]
  rw [if_pos hw]
  exact h L vs a w h1 h2 h3 h4 h5 h6
theorem duty_not {P : Program} {ops : Array Oper} {Q : Exit → Act → World → Prop} {a0 : Act} {T : World → World → Prop} {G : World → Prop} {F : Nat → Value → World → Prop} {i j : Nat} {b : Bool} {d : Tmp} {o : Oper} (ho : ops[i]? = some o) (hg : o.guard = some (j, b)) (hj : Inv.dstOf ops j = some d) (hdep : Inv.afterB ops i j = true) (hb : ∀ v w, F j v w → v = .bool (!b)) (hT : ∀ w, T w w) (hF : ∀ w, F i undef w) : Inv.Duty P ops Q a0 T G F i := by
  intro o' ho' L vs a w h1 h2 h3 h4 h5 h6
  rw [ho] at ho'
  injection ho' with ho'
  subst ho'
  have hL := h2 j hdep
  have h7 := (h5 j d hL hj).trans (hb _ _ (h4 j hL))
  have hd : a.tmps[d]? = some (.bool (!b)) := by
    have h8 : a.tmps.getD d undef = .bool (!b) := h7
    rw [Array.getD_eq_getD_getElem?] at h8
    cases hq : a.tmps[d]? with
    | none => rw [hq] at h8; exact absurd h8 (by simp [undef])
    | some v => rw [hq] at h8; simpa using h8
  have hw : Region.wanted o (yielded ops a.tmps) = false := by
    unfold Inv.dstOf at hj
    simp [Region.wanted, hg, yielded, hj, hd]
  rw [if_neg (by rw [hw]; simp)]
  exact ⟨hT w, hF w⟩

theorem ba_beq (x y : List UInt8) : ((⟨x.toArray⟩ : ByteArray) == ⟨y.toArray⟩) = decide (x = y) := by
  show (x.toArray == y.toArray) = decide (x = y)
  rw [Bool.eq_iff_iff, decide_eq_true_iff]
  simp
def qAu (x y : Au) (f : Field) : Bool := match f.offset with
  | 0 => decide (x.1 = y.1)
  | 1 => decide (x.2.1 = y.2.1)
  | 2 => decide (x.2.2.1 = y.2.2.1)
  | _ => decide (x.2.2.2 = y.2.2.2)
theorem sz8 : (Try.prog.info? 5).map (·.size) = some 1 := by kernel_rfl
theorem aggK : AggT Try.prog 33 16 := ⟨fun _ => by kernel_rfl, by kernel_rfl⟩
theorem auC_key {u : Au} (h : auW u) : ((auC u).drop 3).take 16 = bcells u.2.2.2 := by
  show (bcells u.2.2.2).take 16 = _
  exact List.take_of_length_le (by rw [bcells_length, h.lk]; exact Nat.le_refl _)
set_option maxRecDepth 10000 in
theorem run_eqAu (x y : Au) (hx : auW x) (hy : auW y) (w : World) : (Op.equalIn 10000 35 (.agg (auC x).toArray) (.agg (auC y).toArray)).run Try.prog w = .ok (decide (x = y)) w := by
  have hs := run_structE Try.underlying35 (by kernel_rfl) 9999 (auC x).toArray (auC y).toArray (qAu x y) (fun f hf => by
    simp only [List.mem_cons, List.not_mem_nil, or_false] at hf
    rcases hf with rfl | rfl | rfl | rfl
    · exact ⟨by decide, _, _, run_partXe (by intro w; kernel_rfl) (auC_c x), run_partXe (by intro w; kernel_rfl) (auC_c y), fun w => by rw [run_eqS Try.underlying9, ba_beq]; rfl⟩
    · exact ⟨by decide, _, _, run_partXe (by intro w; kernel_rfl) (auC_ti x), run_partXe (by intro w; kernel_rfl) (auC_ti y), fun w => by rw [run_eqI Try.underlying2]; rfl⟩
    · exact ⟨by decide, _, _, run_partXe (by intro w; kernel_rfl) (show (auC x)[2]? = some (.int .u64 x.2.2.1) from rfl), run_partXe (by intro w; kernel_rfl) (show (auC y)[2]? = some (.int .u64 y.2.2.1) from rfl), fun w => by rw [run_eqI Try.underlying31]; rfl⟩
    · exact ⟨by decide, _, _, run_partAe (n := 16) aggK (auC_key hx), run_partAe (n := 16) aggK (auC_key hy), fun w => by
        have := run_arrB Try.underlying33 sz8 Try.underlying5 hx.lk hy.lk 9997 w
        rw [this]
        congr 1
        show (x.2.2.2 == y.2.2.2) = decide (x.2.2.2 = y.2.2.2)
        rw [Bool.eq_iff_iff, beq_iff_eq, decide_eq_true_iff]⟩) w
  rw [hs]
  congr 1
  rw [Bool.eq_iff_iff, decide_eq_true_iff]
  obtain ⟨x1, x2, x3, x4⟩ := x
  obtain ⟨y1, y2, y3, y4⟩ := y
  show ((decide (x1 = y1) && (decide (x2 = y2) && (decide (x3 = y3) && (decide (x4 = y4) && true)))) = true) ↔ _
  simp
end Go.Proofs.Ytgamlioahdbikaa
