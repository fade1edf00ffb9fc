/- Regions that leave their order open, as in Inv, where what holds may depend on which operations have come up: one of them makes a block. Plain lemmas, no program. -/
import Derived.Test.YthgejidimnbplaaGreatDoorTkr
namespace Go.Proofs.YthgejidimnbplaaGreatDoor
open Go.RowKit

namespace Inv
section
variable {P : Program} {ops : Array Oper} {Q : Exit → Act → World → Prop}
/-- The operations that have come up, one more among them. -/
def more (i : Nat) (L : Nat → Bool) : Nat → Bool := fun j => decide (i = j) || L j
/-- What is owed for one operation. -/
def DutyL (P : Program) (ops : Array Oper) (Q : Exit → Act → World → Prop) (a0 : Act) (T : World → World → Prop) (G : (Nat → Bool) → World → Prop) (F : Nat → Value → World → Prop) (i : Nat) : Prop :=
  ∀ o, ops[i]? = some o → ∀ (L : Nat → Bool) (vs : Nat → Value) (a : Act) (w : World), L i = false → G L w →
    (∀ e, afterB ops i e = true → L e = true) → (∀ j e, L j = true → afterB ops j e = true → L e = true) →
    (∀ j, L j = true → F j (vs j) w) → (∀ j d, L j = true → dstOf ops j = some d → a.eval (.tmp d) = vs j) → (∀ d, outB ops d = true → a.eval (.tmp d) = a0.eval (.tmp d)) →
    if Region.wanted o (yielded ops a.tmps) = true then (∀ K : Act → World → Prop, Shut (∀ v w', T w w' → G (more i L) w' → F i v w' → K (a.put o.dst v) w') → o.wp P a w K Q) else T w w ∧ G (more i L) w ∧ F i undef w

theorem region_invL {id : Nat} {a0 : Act} {w : World} (T : World → World → Prop) (G : (Nat → Bool) → World → Prop) (F : Nat → Value → World → Prop) (hm : P.follows .mixedOrders = true) (hok : okB ops a0.tmps.size = true)
    (hF : ∀ j v x y, T x y → F j v x → F j v y) (h0 : G (fun _ => false) w.drew)
    (step : ∀ i, i < ops.size → DutyL P ops Q a0 T G F i)
    (fin : ∀ vs L w', (∀ i, i < ops.size → L i = true) → G L w' → (∀ i, i < ops.size → F i (vs i) w') → Q .normal (canon ops a0 vs (fun _ => true) ops.size) w') : (Code.region id ops true).wp P Q a0 w := by
  have hrep : ∀ (n j : Nat), (Array.replicate n false).getD j false = false := by
    intro n j
    by_cases h : j < n
    · simp [h]
    · simp [h]
  refine wp_region_any hm (any_of_inv hok (fun listed a w' => G (fun j => listed.getD j false) w' ∧ (∀ j e, listed.getD j false = true → afterB ops j e = true → listed.getD e false = true) ∧ ∃ vs, a = canon ops a0 vs (fun j => listed.getD j false) ops.size ∧ ∀ j, j < ops.size → listed.getD j false = true → F j (vs j) w') ?_ ?_ ops.size _ _ _ (by simp) (by rw [Array.countP_replicate]; simp) ⟨?_, ?_, fun _ => undef, ?_, ?_⟩)
  · rintro i o ho listed a wa hs hgf hdep ⟨hg, hup, vs, rfl, hv⟩
    have hil : i < ops.size := (Array.getElem?_eq_some_iff.1 ho).1
    have hi' : i < listed.size := by omega
    have hd : dstOf ops i = o.dst := by simp [dstOf, ho]
    have hlt : ∀ j, listed.getD j false = true → j < ops.size := by
      intro j hj
      rcases Nat.lt_or_ge j listed.size with h | h
      · omega
      · simp [Array.getElem?_eq_none h] at hj
    have hduty := step i hil o ho (fun j => listed.getD j false) vs _ wa hgf hg hdep hup (fun j hj => hv j (hlt j hj) hj) (fun j d hj hd' => canon_eval (k := a0.tmps.size) hok rfl j d hd' hj ops.size (hlt j hj)) (fun d hd' => canon_out d hd' ops.size)
    have hL : (fun j => (listed.setIfInBounds i true).getD j false) = more i (fun j => listed.getD j false) := funext fun j => getD_set listed i j hi'
    have hnext : ∀ v w', T wa w' → G (more i fun j => listed.getD j false) w' → F i v w' → (fun a' w' => G (fun j => (listed.setIfInBounds i true).getD j false) w' ∧ (∀ j e, (listed.setIfInBounds i true).getD j false = true → afterB ops j e = true → (listed.setIfInBounds i true).getD e false = true) ∧ ∃ vs, a' = canon ops a0 vs (fun j => (listed.setIfInBounds i true).getD j false) ops.size ∧ ∀ j, j < ops.size → (listed.setIfInBounds i true).getD j false = true → F j (vs j) w') ((canon ops a0 vs (fun j => listed.getD j false) ops.size).put o.dst v) w' := by
      intro v w' hT hGi hFi
      refine ⟨by rw [hL]; exact hGi, fun j e hj he => ?_, fun j => if j = i then v else vs j, ?_, fun j hj hl => ?_⟩
      · rw [getD_set listed i j hi'] at hj
        rw [getD_set listed i e hi']
        by_cases e1 : i = j
        · subst e1
          rw [hdep e he]
          simp
        · rw [hup j e (by simpa [e1] using hj) he]
          simp
      · rw [hL, ← hd]
        exact canon_put (k := a0.tmps.size) hok i v hgf ops.size hil
      · rw [getD_set listed i j hi'] at hl
        by_cases e1 : j = i
        · subst e1
          simpa using hFi
        · simp only [if_neg e1]
          exact hF j _ _ _ hT (hv j hj (by simpa [Ne.symm e1] using hl))
    unfold wpOp
    rw [ho]
    by_cases hw : Region.wanted o (yielded ops (canon ops a0 vs (fun j => listed.getD j false) ops.size).tmps) = true
    · simp only [hw, if_true] at hduty ⊢
      exact .inl (hduty _ hnext)
    · simp only [hw] at hduty ⊢
      exact hnext undef wa hduty.1 hduty.2.1 hduty.2.2
  · rintro listed a wa hs hall ⟨hg, _, vs, rfl, hv⟩
    rw [canon_congr (vs' := vs) (L' := fun _ => true) ops.size (fun j hj => ⟨hall j hj, rfl⟩)]
    exact fin vs _ wa hall hg (fun i hi => hv i hi (hall i hi))
  · rw [show (fun j => (Array.replicate ops.size false).getD j false) = fun _ => false from funext fun j => hrep _ j]
    exact h0
  · intro j e hj
    rw [hrep] at hj
    cases hj
  · rw [canon_congr (vs' := fun _ => undef) (L' := fun _ => false) ops.size (fun j hj => ⟨hrep _ j, rfl⟩)]
    exact (canon_none _).symm
  · intro j hj hl
    rw [hrep] at hl
    cases hl
end
/-- The duties of the first n operations. -/
def DutiesL (P : Program) (ops : Array Oper) (Q : Exit → Act → World → Prop) (a0 : Act) (T : World → World → Prop) (G : (Nat → Bool) → World → Prop) (F : Nat → Value → World → Prop) : Nat → Prop
  | 0 => True
  | n + 1 => DutiesL P ops Q a0 T G F n ∧ DutyL P ops Q a0 T G F n
section
variable {P : Program} {ops : Array Oper} {Q : Exit → Act → World → Prop} {a0 : Act} {T : World → World → Prop} {G : (Nat → Bool) → World → Prop} {F : Nat → Value → World → Prop}
theorem dutiesL_all : ∀ {n : Nat}, DutiesL P ops Q a0 T G F n → ∀ i, i < n → DutyL P ops Q a0 T G F i
  | 0, _, i, h => by omega
  | n + 1, h, i, hi => by
    by_cases e : i = n
    · subst e; exact h.2
    · exact dutiesL_all h.1 i (by omega)
/-- The duty of an operation that isn't guarded. -/
theorem dutyL_plain {i : Nat} {o : Oper} (ho : ops[i]? = some o) (hg : o.guard = none)
    (h : ∀ (L : Nat → Bool) (vs : Nat → Value) (a : Act) (w : World), L i = false → G L w →
      (∀ e, afterB ops i e = true → L e = true) → (∀ j e, L j = true → afterB ops j e = true → L e = true) →
      (∀ j, L j = true → F j (vs j) w) → (∀ j d, L j = true → dstOf ops j = some d → a.eval (.tmp d) = vs j) → (∀ d, outB ops d = true → a.eval (.tmp d) = a0.eval (.tmp d)) →
      ∀ K : Act → World → Prop, Shut (∀ v w', T w w' → G (more i L) w' → F i v w' → K (a.put o.dst v) w') → o.wp P a w K Q) : DutyL P ops Q a0 T G F i := by
  intro o' ho' L vs a w h0 h1 h2 h3 h4 h5 h6
  rw [ho] at ho'
  injection ho' with ho'
  subst ho'
  have hw : Region.wanted o (yielded ops a.tmps) = true := by simp [Region.wanted, hg]
  rw [if_pos hw]
  exact h L vs a w h0 h1 h2 h3 h4 h5 h6
end
theorem wp_allocCi {P : Program} {Q : Exit → Act → World → Prop} {ty : TypeId} {cs : List Value} {o : Oper} {a : Act} {w : World} {K : Act → World → Prop} (hz : ∀ w, (zeroValue ty).run P w = .ok (.agg cs.toArray) w) (ho : o.op = .alloc ty)
    (hk : K (a.put o.dst (.pointer (some ⟨w.heap.size, 0, none⟩))) (w.alloc (.cells cs.toArray ty))) : o.wp P a w K Q := by
  unfold Oper.wp execOp
  simp only [ho, Sem.run_bind, run_allocC hz w, Result.andThen_ok, Sem.run_pure]
  exact hk
end Inv

/-- A region one operation (k) of which makes the block g, and else at most that one is written. -/
def GAl (wd : World) (k g : Nat) (t : TypeId) (n : Nat) (L : Nat → Bool) (x : World) : Prop :=
  Below wd.heap.size wd x ∧ if L k = true then ∃ cs, cs.length = n ∧ CB x g t cs else x = wd
theorem GAl.keep {wd : World} {k g : Nat} {t : TypeId} {n i : Nat} {L : Nat → Bool} {x : World} (hi : i ≠ k) (h : GAl wd k g t n L x) : GAl wd k g t n (Inv.more i L) x := by
  unfold GAl Inv.more at *
  rw [decide_eq_false hi, Bool.false_or]
  exact h
theorem GAl.none {wd : World} {k g : Nat} {t : TypeId} {n : Nat} {L : Nat → Bool} {x : World} (h : GAl wd k g t n L x) (hl : L k = false) : x = wd := by
  have := h.2
  rw [if_neg (by rw [hl]; simp)] at this
  exact this
theorem GAl.some {wd : World} {k g : Nat} {t : TypeId} {n : Nat} {L : Nat → Bool} {x : World} (h : GAl wd k g t n L x) (hl : L k = true) : ∃ cs, cs.length = n ∧ CB x g t cs := by
  have := h.2
  rw [if_pos hl] at this
  exact this
theorem GAl.start (wd : World) (k g : Nat) (t : TypeId) (n : Nat) : GAl wd k g t n (fun _ => false) wd := ⟨Below.refl _ _, by rw [if_neg (by simp)]⟩
theorem GAl.made {wd : World} {k : Nat} {t : TypeId} {n : Nat} {L : Nat → Bool} {cs : List Value} (hn : cs.length = n) : GAl wd k wd.heap.size t n (Inv.more k L) (wd.alloc (.cells cs.toArray t)) :=
  ⟨(Below.refl _ _).alloc (Nat.le_refl _) _, by rw [if_pos (by simp [Inv.more])]; exact ⟨cs, hn, CB.new _ _ _⟩⟩
theorem GAl.stored {wd : World} {k i : Nat} {t : TypeId} {n : Nat} {L : Nat → Bool} {x y : World} {R : List Value} (h : GAl wd k wd.heap.size t n L x) (hi : i ≠ k) (hl : L k = true) (hR : R.length = n) (hg : x.grownBy y (Option.some wd.heap.size)) (hc : CB y wd.heap.size t R) : GAl wd k wd.heap.size t n (Inv.more i L) y := by
  refine GAl.keep hi ⟨h.1.trans (below_row hg h.1.size (fun g' e => by injection e with e; omega)), ?_⟩
  rw [if_pos hl]
  exact ⟨R, hR, hc⟩
/-- Such a region by its operations' duties. -/
theorem region_byL {P : Program} {ops : Array Oper} {Q : Exit → Act → World → Prop} {a0 : Act} {id : Nat} {w : World} (n : Nat) (ds : List (Option Tmp)) (T : World → World → Prop) (G : (Nat → Bool) → World → Prop) (F : Nat → Value → World → Prop) (hm : P.follows .mixedOrders = true) (hok : Inv.okB ops a0.tmps.size = true) (hn : ops.size = n) (hds : (List.range n).map (Inv.dstOf ops) = ds)
    (hF : ∀ j v x y, T x y → F j v x → F j v y) (h0 : G (fun _ => false) w.drew)
    (step : Inv.DutiesL P ops Q a0 T G F n)
    (fin : ∀ vs L w', (∀ i, i < n → L i = true) → G L w' → (∀ i, i < n → F i (vs i) w') → Q .normal (Inv.putAll vs ds 0 a0) w') : (Code.region id ops true).wp P Q a0 w := by
  subst hn
  refine Inv.region_invL T G F hm hok hF h0 (Inv.dutiesL_all step) (fun vs L w' hl hg hf => ?_)
  rw [Inv.canon_putAll, hds]
  exact fin vs L w' hl hg hf
end Go.Proofs.YthgejidimnbplaaGreatDoor
