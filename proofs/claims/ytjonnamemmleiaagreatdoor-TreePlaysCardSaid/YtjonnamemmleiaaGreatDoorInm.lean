/- Regions that leave their order open, as in Inv, where what holds may depend on which operations have come up: one of them makes a block. Plain lemmas, no program. -/
import Derived.Test.YtjonnamemmleiaaGreatDoorInv
namespace Go.Proofs.YtjonnamemmleiaaGreatDoor
open Go.RowKit

namespace Inv
section
variable {P : Program} {ops : Array Oper} {Q : Exit → Act → World → Prop}
theorem canon_late {a0 : Act} {vs : Nat → Value} {L : Nat → Bool} {d : Tmp} (h : ∀ j, L j = true → dstOf ops j ≠ some d) : ∀ n, (canon ops a0 vs L n).eval (.tmp d) = a0.eval (.tmp d)
  | 0 => rfl
  | n + 1 => by
    have ih := canon_late (a0 := a0) (vs := vs) h n
    unfold canon
    split
    · rename_i hl
      rw [put_eval_ne _ _ _ _ (h n hl), ih]
    · exact ih
theorem ne_of_outB {L : Nat → Bool} {d : Tmp} (h : outB ops d = true) (j : Nat) (_ : L j = true) : dstOf ops j ≠ some d := by
  unfold dstOf
  cases ho : ops[j]? with
  | none => simp
  | some o =>
    have hm : o ∈ ops.toList := Array.mem_toList_iff.2 (Array.mem_of_getElem? ho)
    have := List.all_eq_true.1 h o hm
    simpa using this
theorem ne_of_late {L : Nat → Bool} {d : Tmp} {n i J : Nat} (hok : okB ops n = true) (hd : dstOf ops J = some d) (l0 : L i = false) (up : ∀ j e, L j = true → afterB ops j e = true → L e = true) (ha : afterB ops J i = true) (j : Nat) (hj : L j = true) : dstOf ops j ≠ some d := by
  by_cases e : J = j
  · subst e
    have := up J i hj ha
    rw [l0] at this
    cases this
  · exact okB_ne hok e d hd
/-- The operations that have come up, one more among them. -/
def moreT (i : Nat) (L : Nat → Bool) : Nat → Bool := fun j => decide (i = j) || L j
/-- What is owed for one operation. -/
def DutyT (P : Program) (ops : Array Oper) (Q : Exit → Act → World → Prop) (a0 : Act) (T : Nat → World → World → Prop) (G : (Nat → Bool) → World → Prop) (F : Nat → Value → World → Prop) (i : Nat) : Prop :=
  ∀ o, ops[i]? = some o → ∀ (L : Nat → Bool) (vs : Nat → Value) (a : Act) (w : World), L i = false → G L w →
    (∀ e, afterB ops i e = true → L e = true) → (∀ j e, L j = true → afterB ops j e = true → L e = true) →
    (∀ j, L j = true → F j (vs j) w) → (∀ j d, L j = true → dstOf ops j = some d → a.eval (.tmp d) = vs j) → (∀ d, (∀ j, L j = true → dstOf ops j ≠ some d) → a.eval (.tmp d) = a0.eval (.tmp d)) →
    if Region.wanted o (yielded ops a.tmps) = true then (∀ K : Act → World → Prop, Shut (∀ v w', T i w w' → G (moreT i L) w' → F i v w' → K (a.put o.dst v) w') → o.wp P a w K Q) else T i w w ∧ G (moreT i L) w ∧ F i undef w

theorem region_invT {id : Nat} {a0 : Act} {w : World} (T : Nat → World → World → Prop) (G : (Nat → Bool) → World → Prop) (F : Nat → Value → World → Prop) (hm : P.follows .mixedOrders = true) (hok : okB ops a0.tmps.size = true)
    (hF : ∀ i j v x y, j ≠ i → Inv.afterB ops j i = false → T i x y → F j v x → F j v y) (h0 : G (fun _ => false) w.drew)
    (step : ∀ i, i < ops.size → DutyT P ops Q a0 T G F i)
    (fin : ∀ vs L w', (∀ i, i < ops.size → L i = true) → G L w' → (∀ i, i < ops.size → F i (vs i) w') → Q .normal (canon ops a0 vs (fun _ => true) ops.size) w') : (Code.region id ops true).wp P Q a0 w := by
  have hrep : ∀ (n j : Nat), (Array.replicate n false).getD j false = false := by
    intro n j
    by_cases h : j < n
    · simp [h]
    · simp [h]
  refine wp_region_any hm (any_of_inv hok (fun listed a w' => G (fun j => listed.getD j false) w' ∧ (∀ j e, listed.getD j false = true → afterB ops j e = true → listed.getD e false = true) ∧ ∃ vs, a = canon ops a0 vs (fun j => listed.getD j false) ops.size ∧ ∀ j, j < ops.size → listed.getD j false = true → F j (vs j) w') ?_ ?_ ops.size _ _ _ (by simp) (by rw [Array.countP_replicate]; simp) ⟨?_, ?_, fun _ => undef, ?_, ?_⟩)
  · rintro i o ho listed a wa hs hgf hdep ⟨hg, hup, vs, rfl, hv⟩
    have hil : i < ops.size := (Array.getElem?_eq_some_iff.1 ho).1
    have hi' : i < listed.size := by omega
    have hd : dstOf ops i = o.dst := by simp [dstOf, ho]
    have hlt : ∀ j, listed.getD j false = true → j < ops.size := by
      intro j hj
      rcases Nat.lt_or_ge j listed.size with h | h
      · omega
      · simp [Array.getElem?_eq_none h] at hj
    have hduty := step i hil o ho (fun j => listed.getD j false) vs _ wa hgf hg hdep hup (fun j hj => hv j (hlt j hj) hj) (fun j d hj hd' => canon_eval (k := a0.tmps.size) hok rfl j d hd' hj ops.size (hlt j hj)) (fun d hd' => canon_late hd' ops.size)
    have hL : (fun j => (listed.setIfInBounds i true).getD j false) = moreT i (fun j => listed.getD j false) := funext fun j => getD_set listed i j hi'
    have hnext : ∀ v w', T i wa w' → G (moreT i fun j => listed.getD j false) w' → F i v w' → (fun a' w' => G (fun j => (listed.setIfInBounds i true).getD j false) w' ∧ (∀ j e, (listed.setIfInBounds i true).getD j false = true → afterB ops j e = true → (listed.setIfInBounds i true).getD e false = true) ∧ ∃ vs, a' = canon ops a0 vs (fun j => (listed.setIfInBounds i true).getD j false) ops.size ∧ ∀ j, j < ops.size → (listed.setIfInBounds i true).getD j false = true → F j (vs j) w') ((canon ops a0 vs (fun j => listed.getD j false) ops.size).put o.dst v) w' := by
      intro v w' hT hGi hFi
      refine ⟨by rw [hL]; exact hGi, fun j e hj he => ?_, fun j => if j = i then v else vs j, ?_, fun j hj hl => ?_⟩
      · rw [getD_set listed i j hi'] at hj
        rw [getD_set listed i e hi']
        by_cases e1 : i = j
        · subst e1
          rw [hdep e he]
          simp
        · rw [hup j e (by simpa [e1] using hj) he]
          simp
      · rw [hL, ← hd]
        exact canon_put (k := a0.tmps.size) hok i v hgf ops.size hil
      · rw [getD_set listed i j hi'] at hl
        by_cases e1 : j = i
        · subst e1
          simpa using hFi
        · simp only [if_neg e1]
          have hlj : listed.getD j false = true := by simpa [Ne.symm e1] using hl
          have haf : afterB ops j i = false := by
            cases ha : afterB ops j i with
            | false => rfl
            | true => have := hup j i hlj ha; rw [hgf] at this; cases this
          exact hF i j _ _ _ e1 haf hT (hv j hj hlj)
    unfold wpOp
    rw [ho]
    by_cases hw : Region.wanted o (yielded ops (canon ops a0 vs (fun j => listed.getD j false) ops.size).tmps) = true
    · simp only [hw, if_true] at hduty ⊢
      exact .inl (hduty _ hnext)
    · simp only [hw] at hduty ⊢
      exact hnext undef wa hduty.1 hduty.2.1 hduty.2.2
  · rintro listed a wa hs hall ⟨hg, _, vs, rfl, hv⟩
    rw [canon_congr (vs' := vs) (L' := fun _ => true) ops.size (fun j hj => ⟨hall j hj, rfl⟩)]
    exact fin vs _ wa hall hg (fun i hi => hv i hi (hall i hi))
  · rw [show (fun j => (Array.replicate ops.size false).getD j false) = fun _ => false from funext fun j => hrep _ j]
    exact h0
  · intro j e hj
    rw [hrep] at hj
    cases hj
  · rw [canon_congr (vs' := fun _ => undef) (L' := fun _ => false) ops.size (fun j hj => ⟨hrep _ j, rfl⟩)]
    exact (canon_none _).symm
  · intro j hj hl
    rw [hrep] at hl
    cases hl
end
/-- The duties of the first n operations. -/
def DutiesT (P : Program) (ops : Array Oper) (Q : Exit → Act → World → Prop) (a0 : Act) (T : Nat → World → World → Prop) (G : (Nat → Bool) → World → Prop) (F : Nat → Value → World → Prop) : Nat → Prop
  | 0 => True
  | n + 1 => DutiesT P ops Q a0 T G F n ∧ DutyT P ops Q a0 T G F n
section
variable {P : Program} {ops : Array Oper} {Q : Exit → Act → World → Prop} {a0 : Act} {T : Nat → World → World → Prop} {G : (Nat → Bool) → World → Prop} {F : Nat → Value → World → Prop}
theorem dutiesT_all : ∀ {n : Nat}, DutiesT P ops Q a0 T G F n → ∀ i, i < n → DutyT P ops Q a0 T G F i
  | 0, _, i, h => by omega
  | n + 1, h, i, hi => by
    by_cases e : i = n
    · subst e; exact h.2
    · exact dutiesT_all h.1 i (by omega)
/-- The duty of an operation that isn't guarded. -/
theorem dutyT_plain {i : Nat} {o : Oper} (ho : ops[i]? = some o) (hg : o.guard = none)
    (h : ∀ (L : Nat → Bool) (vs : Nat → Value) (a : Act) (w : World), L i = false → G L w →
      (∀ e, afterB ops i e = true → L e = true) → (∀ j e, L j = true → afterB ops j e = true → L e = true) →
      (∀ j, L j = true → F j (vs j) w) → (∀ j d, L j = true → dstOf ops j = some d → a.eval (.tmp d) = vs j) → (∀ d, (∀ j, L j = true → dstOf ops j ≠ some d) → a.eval (.tmp d) = a0.eval (.tmp d)) →
      ∀ K : Act → World → Prop, Shut (∀ v w', T i w w' → G (moreT i L) w' → F i v w' → K (a.put o.dst v) w') → o.wp P a w K Q) : DutyT P ops Q a0 T G F i := by
  intro o' ho' L vs a w h0 h1 h2 h3 h4 h5 h6
  rw [ho] at ho'
  injection ho' with ho'
  subst ho'
  have hw : Region.wanted o (yielded ops a.tmps) = true := by simp [Region.wanted, hg]
  rw [if_pos hw]
  exact h L vs a w h0 h1 h2 h3 h4 h5 h6
theorem met_of {L : Nat → Bool} {vs : Nat → Value} {a : Act} {w : World} {i j : Nat} {b c : Bool} {d : Tmp} {o : Oper} (hg : o.guard = some (j, b)) (hj : dstOf ops j = some d) (hdep : afterB ops i j = true) (hb : ∀ v w, F j v w → v = .bool c)
    (h2 : ∀ e, afterB ops i e = true → L e = true) (h4 : ∀ j, L j = true → F j (vs j) w) (h5 : ∀ j d, L j = true → dstOf ops j = some d → a.eval (.tmp d) = vs j) : Region.wanted o (yielded ops a.tmps) = (c == b) := by
  have hL := h2 j hdep
  have h7 := (h5 j d hL hj).trans (hb _ _ (h4 j hL))
  have hd : a.tmps[d]? = some (.bool c) := by
    have h8 : a.tmps.getD d undef = .bool c := h7
    rw [Array.getD_eq_getD_getElem?] at h8
    cases hq : a.tmps[d]? with
    | none => rw [hq] at h8; exact absurd h8 (by simp [undef])
    | some v => rw [hq] at h8; simpa using h8
  unfold dstOf at hj
  simp [Region.wanted, hg, yielded, hj, hd]
/-- The duty of an operation whose guard is met. -/
theorem dutyT_if {i j : Nat} {b : Bool} {d : Tmp} {o : Oper} (ho : ops[i]? = some o) (hg : o.guard = some (j, b)) (hj : dstOf ops j = some d) (hdep : afterB ops i j = true) (hb : ∀ v w, F j v w → v = .bool b)
    (h : ∀ (L : Nat → Bool) (vs : Nat → Value) (a : Act) (w : World), L i = false → G L w →
      (∀ e, afterB ops i e = true → L e = true) → (∀ j e, L j = true → afterB ops j e = true → L e = true) →
      (∀ j, L j = true → F j (vs j) w) → (∀ j d, L j = true → dstOf ops j = some d → a.eval (.tmp d) = vs j) → (∀ d, (∀ j, L j = true → dstOf ops j ≠ some d) → a.eval (.tmp d) = a0.eval (.tmp d)) →
      ∀ K : Act → World → Prop, Shut (∀ v w', T i w w' → G (moreT i L) w' → F i v w' → K (a.put o.dst v) w') → o.wp P a w K Q) : DutyT P ops Q a0 T G F i := by
  intro o' ho' L vs a w h0 h1 h2 h3 h4 h5 h6
  rw [ho] at ho'
  injection ho' with ho'
  subst ho'
  rw [if_pos (by rw [met_of hg hj hdep hb h2 h4 h5]; simp)]
  exact h L vs a w h0 h1 h2 h3 h4 h5 h6
/-- .. isn't. -/
theorem dutyT_not {i j : Nat} {b : Bool} {d : Tmp} {o : Oper} (ho : ops[i]? = some o) (hg : o.guard = some (j, b)) (hj : dstOf ops j = some d) (hdep : afterB ops i j = true) (hb : ∀ v w, F j v w → v = .bool (!b)) (hT : ∀ w, T i w w) (hG : ∀ L w, G L w → G (moreT i L) w) (hF : ∀ w, F i undef w) : DutyT P ops Q a0 T G F i := by
  intro o' ho' L vs a w h0 h1 h2 h3 h4 h5 h6
  rw [ho] at ho'
  injection ho' with ho'
  subst ho'
  rw [if_neg (by rw [met_of hg hj hdep hb h2 h4 h5]; cases b <;> simp)]
  exact ⟨hT w, hG L w h1, hF w⟩
end
end Inv

/-- Such a region by its operations' duties. -/
theorem region_byT {P : Program} {ops : Array Oper} {Q : Exit → Act → World → Prop} {a0 : Act} {id : Nat} {w : World} (n : Nat) (ds : List (Option Tmp)) (T : Nat → World → World → Prop) (G : (Nat → Bool) → World → Prop) (F : Nat → Value → World → Prop) (hm : P.follows .mixedOrders = true) (hok : Inv.okB ops a0.tmps.size = true) (hn : ops.size = n) (hds : (List.range n).map (Inv.dstOf ops) = ds)
    (hF : ∀ i j v x y, j ≠ i → Inv.afterB ops j i = false → T i x y → F j v x → F j v y) (h0 : G (fun _ => false) w.drew)
    (step : Inv.DutiesT P ops Q a0 T G F n)
    (fin : ∀ vs L w', (∀ i, i < n → L i = true) → G L w' → (∀ i, i < n → F i (vs i) w') → Q .normal (Inv.putAll vs ds 0 a0) w') : (Code.region id ops true).wp P Q a0 w := by
  subst hn
  refine Inv.region_invT T G F hm hok hF h0 (Inv.dutiesT_all step) (fun vs L w' hl hg hf => ?_)
  rw [Inv.canon_putAll, hds]
  exact fin vs L w' hl hg hf
end Go.Proofs.YtjonnamemmleiaaGreatDoor
