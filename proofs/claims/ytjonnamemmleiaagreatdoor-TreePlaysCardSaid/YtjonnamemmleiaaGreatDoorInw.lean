/- Regions that leave their order open, whose last operation waits for all others: those by their duties, as in Inv; it with all that they gave. Plain lemmas, no program. -/
import Derived.Test.YtjonnamemmleiaaGreatDoorInm
namespace Go.Proofs.YtjonnamemmleiaaGreatDoor
open Go.RowKit

namespace Inv
section
variable {P : Program} {ops : Array Oper} {Q : Exit → Act → World → Prop}
/-- The values, one more among them. -/
def moreV (i : Nat) (v : Value) (vs : Nat → Value) : Nat → Value := fun j => if j = i then v else vs j
/-- What is owed for one operation. -/
def DutyV (P : Program) (ops : Array Oper) (Q : Exit → Act → World → Prop) (a0 : Act) (G : (Nat → Bool) → (Nat → Value) → World → Prop) (i : Nat) : Prop :=
  ∀ o, ops[i]? = some o → ∀ (L : Nat → Bool) (vs : Nat → Value) (a : Act) (w : World), L i = false → (∀ j, L j = true → j < ops.size) → G L vs w →
    (∀ e, afterB ops i e = true → L e = true) → (∀ j e, L j = true → afterB ops j e = true → L e = true) →
    (∀ j d, L j = true → dstOf ops j = some d → a.eval (.tmp d) = vs j) → (∀ d, (∀ j, L j = true → dstOf ops j ≠ some d) → a.eval (.tmp d) = a0.eval (.tmp d)) →
    if Region.wanted o (yielded ops a.tmps) = true then (∀ K : Act → World → Prop, Shut (∀ v w', G (moreT i L) (moreV i v vs) w' → K (a.put o.dst v) w') → o.wp P a w K Q) else G (moreT i L) (moreV i undef vs) w
theorem region_invV {id : Nat} {a0 : Act} {w : World} (G : (Nat → Bool) → (Nat → Value) → World → Prop) (hm : P.follows .mixedOrders = true) (hok : okB ops a0.tmps.size = true)
    (h0 : G (fun _ => false) (fun _ => undef) w.drew)
    (step : ∀ i, i < ops.size → DutyV P ops Q a0 G i)
    (fin : ∀ vs L w', (∀ i, i < ops.size → L i = true) → G L vs w' → Q .normal (canon ops a0 vs (fun _ => true) ops.size) w') : (Code.region id ops true).wp P Q a0 w := by
  have hrep : ∀ (n j : Nat), (Array.replicate n false).getD j false = false := by
    intro n j
    by_cases h : j < n
    · simp [h]
    · simp [h]
  refine wp_region_any hm (any_of_inv hok (fun listed a w' => (∀ j e, listed.getD j false = true → afterB ops j e = true → listed.getD e false = true) ∧ ∃ vs, a = canon ops a0 vs (fun j => listed.getD j false) ops.size ∧ G (fun j => listed.getD j false) vs w') ?_ ?_ ops.size _ _ _ (by simp) (by rw [Array.countP_replicate]; simp) ⟨?_, fun _ => undef, ?_, ?_⟩)
  · rintro i o ho listed a wa hs hgf hdep ⟨hup, vs, rfl, hg⟩
    have hil : i < ops.size := (Array.getElem?_eq_some_iff.1 ho).1
    have hi' : i < listed.size := by omega
    have hd : dstOf ops i = o.dst := by simp [dstOf, ho]
    have hlt : ∀ j, listed.getD j false = true → j < ops.size := by
      intro j hj
      rcases Nat.lt_or_ge j listed.size with h | h
      · omega
      · simp [Array.getElem?_eq_none h] at hj
    have hduty := step i hil o ho (fun j => listed.getD j false) vs _ wa hgf hlt hg hdep hup (fun j d hj hd' => canon_eval (k := a0.tmps.size) hok rfl j d hd' hj ops.size (hlt j hj)) (fun d hd' => canon_late hd' ops.size)
    have hL : (fun j => (listed.setIfInBounds i true).getD j false) = moreT i (fun j => listed.getD j false) := funext fun j => getD_set listed i j hi'
    have hnext : ∀ v w', G (moreT i fun j => listed.getD j false) (moreV i v vs) w' → (fun a' w' => (∀ j e, (listed.setIfInBounds i true).getD j false = true → afterB ops j e = true → (listed.setIfInBounds i true).getD e false = true) ∧ ∃ vs, a' = canon ops a0 vs (fun j => (listed.setIfInBounds i true).getD j false) ops.size ∧ G (fun j => (listed.setIfInBounds i true).getD j false) vs w') ((canon ops a0 vs (fun j => listed.getD j false) ops.size).put o.dst v) w' := by
      intro v w' hGi
      refine ⟨fun j e hj he => ?_, moreV i v vs, ?_, by rw [hL]; exact hGi⟩
      · rw [getD_set listed i j hi'] at hj
        rw [getD_set listed i e hi']
        by_cases e1 : i = j
        · subst e1
          rw [hdep e he]
          simp
        · rw [hup j e (by simpa [e1] using hj) he]
          simp
      · rw [hL, ← hd]
        exact canon_put (k := a0.tmps.size) hok i v hgf ops.size hil
    unfold wpOp
    rw [ho]
    by_cases hw : Region.wanted o (yielded ops (canon ops a0 vs (fun j => listed.getD j false) ops.size).tmps) = true
    · simp only [hw, if_true] at hduty ⊢
      exact .inl (hduty _ hnext)
    · simp only [hw] at hduty ⊢
      exact hnext undef wa hduty
  · rintro listed a wa hs hall ⟨_, vs, rfl, hg⟩
    rw [canon_congr (vs' := vs) (L' := fun _ => true) ops.size (fun j hj => ⟨hall j hj, rfl⟩)]
    exact fin vs _ wa hall hg
  · intro j e hj
    rw [hrep] at hj
    cases hj
  · rw [canon_congr (vs' := fun _ => undef) (L' := fun _ => false) ops.size (fun j hj => ⟨hrep _ j, rfl⟩)]
    exact (canon_none _).symm
  · rw [show (fun j => (Array.replicate ops.size false).getD j false) = fun _ => false from funext fun j => hrep _ j]
    exact h0
end
end Inv

/-- Such a region: N is the operation that waits for all others; R: what it leaves. -/
theorem region_last {P : Program} {ops : Array Oper} {Q : Exit → Act → World → Prop} {a0 : Act} {id : Nat} {w : World} (N : Nat) (ds : List (Option Tmp)) (G : World → Prop) (F : Nat → Value → World → Prop) (R : (Nat → Value) → World → Prop) (hm : P.follows .mixedOrders = true) (hok : Inv.okB ops a0.tmps.size = true) (hn : ops.size = N + 1) (hds : (List.range (N + 1)).map (Inv.dstOf ops) = ds)
    (hlast : (List.range N).all (fun i => Inv.afterB ops N i) = true)
    (hG : ∀ x y, World.grownBy x y none → G x → G y) (hF : ∀ j v x y, World.grownBy x y none → G x → F j v x → F j v y) (h0 : G w.drew)
    (step : Inv.Duties P ops Q a0 (fun x y => World.grownBy x y none) G F N)
    (stepN : ∀ o, ops[N]? = some o → o.guard = none ∧ ∀ (vs : Nat → Value) (a : Act) (w : World), G w → (∀ j, j < N → F j (vs j) w) → (∀ j d, j < N → Inv.dstOf ops j = some d → a.eval (.tmp d) = vs j) → (∀ d, Inv.outB ops d = true → a.eval (.tmp d) = a0.eval (.tmp d)) →
      ∀ K : Act → World → Prop, Shut (∀ v w', R vs w' → K (a.put o.dst v) w') → o.wp P a w K Q)
    (hR : ∀ vs vs' x, (∀ j, j < N → vs j = vs' j) → R vs x → R vs' x)
    (fin : ∀ vs w', R vs w' → Q .normal (Inv.putAll vs ds 0 a0) w') : (Code.region id ops true).wp P Q a0 w := by
  have hal : ∀ i, i < N → Inv.afterB ops N i = true := fun i hi => List.all_eq_true.1 hlast i (List.mem_range.2 hi)
  refine Inv.region_invV (fun L vs x => (L N = false ∧ G x ∧ ∀ j, j < N → L j = true → F j (vs j) x) ∨ (L N = true ∧ R vs x)) hm hok (.inl ⟨rfl, h0, fun _ _ h => by cases h⟩) (fun i hi o ho L vs a x hli hlt hg hdep hup hev hout => ?_) (fun vs L w' hl hg => ?_)
  · have hLN : L N = false := by
      cases hc : L N with
      | false => rfl
      | true =>
        by_cases e : i = N
        · rw [e] at hli; rw [hli] at hc; cases hc
        · have := hup N i hc (hal i (by omega))
          rw [hli] at this
          cases this
    obtain ⟨_, hg0, hf0⟩ := hg.resolve_right (fun h => by rw [hLN] at h; cases h.1)
    have hout2 : ∀ d, Inv.outB ops d = true → a.eval (.tmp d) = a0.eval (.tmp d) := fun d hd => hout d (Inv.ne_of_outB hd)
    by_cases e : i = N
    · subst e
      obtain ⟨hgd, hst⟩ := stepN o ho
      have hw : Region.wanted o (yielded ops a.tmps) = true := by simp [Region.wanted, hgd]
      rw [if_pos hw]
      refine fun K hK => hst vs a x hg0 (fun j hj => hf0 j hj (hdep j (hal j hj))) (fun j d hj hd => hev j d (hdep j (hal j hj)) hd) hout2 K (fun v w' hr => hK.out v w' (.inr ⟨by simp [Inv.moreT], ?_⟩))
      exact hR vs _ w' (fun j hj => by unfold Inv.moreV; rw [if_neg (by omega)]) hr
    · have hiN : i < N := by omega
      have hd1 := Inv.duties_all step i hiN o ho (fun j => L j && decide (j < N)) vs a x hg0 (fun q hq => by
          have h1 := hdep q hq
          have h2 := Inv.okB_after hok hq
          simp [h1]; omega) (fun j q hj hq => by
          simp at hj
          have h1 := hup j q hj.1 hq
          have h2 := Inv.okB_after hok hq
          simp [h1]; omega) (fun j hj => by simp at hj; exact hf0 j hj.2 hj.1) (fun j d hj hd => by simp at hj; exact hev j d hj.1 hd) hout2
      have hnext : ∀ v w', World.grownBy x w' none → F i v w' → (fun L' vs' x' => (L' N = false ∧ G x' ∧ ∀ j, j < N → L' j = true → F j (vs' j) x') ∨ (L' N = true ∧ R vs' x')) (Inv.moreT i L) (Inv.moreV i v vs) w' := by
        intro v w' hgr hfi
        refine .inl ⟨by unfold Inv.moreT; rw [hLN]; simp [e], hG _ _ hgr hg0, fun j hj hl => ?_⟩
        unfold Inv.moreV
        by_cases e1 : j = i
        · rw [if_pos e1, e1]; exact hfi
        · rw [if_neg e1]
          have hl2 : L j = true := by
            unfold Inv.moreT at hl
            rw [decide_eq_false (fun h => e1 h.symm), Bool.false_or] at hl
            exact hl
          exact hF j _ _ _ hgr hg0 (hf0 j hj hl2)
      split
      · rename_i hw
        rw [if_pos hw] at hd1
        exact fun K hK => hd1 K (fun v w' hgr hfi => hK.out v w' (hnext v w' hgr hfi))
      · rename_i hw
        rw [if_neg hw] at hd1
        exact hnext undef x hd1.1 hd1.2
  · have hLN := hl N (by omega)
    have hr := (hg.resolve_left (fun h => by rw [hLN] at h; cases h.1)).2
    rw [Inv.canon_putAll, hn, hds]
    exact fin vs w' hr
end Go.Proofs.YtjonnamemmleiaaGreatDoor
namespace Go.Proofs.YtjonnamemmleiaaGreatDoor
open Go.RowKit

namespace Inv
/-- What is owed for one operation. -/
def DutyW (P : Program) (ops : Array Oper) (Q : Exit → Act → World → Prop) (a0 : Act) (T : Nat → World → World → Prop) (F : (Nat → Bool) → Nat → Value → World → Prop) (i : Nat) : Prop :=
  ∀ o, ops[i]? = some o → ∀ (L : Nat → Bool) (vs : Nat → Value) (a : Act) (w : World), L i = false → F L i undef w →
    (∀ e, afterB ops i e = true → L e = true) → (∀ j e, L j = true → afterB ops j e = true → L e = true) →
    (∀ j, L j = true → F L j (vs j) w) → (∀ j d, L j = true → dstOf ops j = some d → a.eval (.tmp d) = vs j) → (∀ d, (∀ j, L j = true → dstOf ops j ≠ some d) → a.eval (.tmp d) = a0.eval (.tmp d)) →
    if Region.wanted o (yielded ops a.tmps) = true then (∀ K : Act → World → Prop, Shut (∀ v w', T i w w' → F (moreT i L) i v w' → K (a.put o.dst v) w') → o.wp P a w K Q) else T i w w ∧ F (moreT i L) i undef w
def DutiesW (P : Program) (ops : Array Oper) (Q : Exit → Act → World → Prop) (a0 : Act) (T : Nat → World → World → Prop) (F : (Nat → Bool) → Nat → Value → World → Prop) : Nat → Prop
  | 0 => True
  | n + 1 => DutiesW P ops Q a0 T F n ∧ DutyW P ops Q a0 T F n
section
variable {P : Program} {ops : Array Oper} {Q : Exit → Act → World → Prop} {a0 : Act} {T : Nat → World → World → Prop} {F : (Nat → Bool) → Nat → Value → World → Prop}
theorem dutiesW_all : ∀ {n : Nat}, DutiesW P ops Q a0 T F n → ∀ i, i < n → DutyW P ops Q a0 T F i
  | 0, _, i, h => by omega
  | n + 1, h, i, hi => by
    by_cases e : i = n
    · subst e; exact h.2
    · exact dutiesW_all h.1 i (by omega)
theorem dutyW_plain {i : Nat} {o : Oper} (ho : ops[i]? = some o) (hg : o.guard = none)
    (h : ∀ (L : Nat → Bool) (vs : Nat → Value) (a : Act) (w : World), L i = false → F L i undef w →
      (∀ e, afterB ops i e = true → L e = true) → (∀ j e, L j = true → afterB ops j e = true → L e = true) →
      (∀ j, L j = true → F L j (vs j) w) → (∀ j d, L j = true → dstOf ops j = some d → a.eval (.tmp d) = vs j) → (∀ d, (∀ j, L j = true → dstOf ops j ≠ some d) → a.eval (.tmp d) = a0.eval (.tmp d)) →
      ∀ K : Act → World → Prop, Shut (∀ v w', T i w w' → F (moreT i L) i v w' → K (a.put o.dst v) w') → o.wp P a w K Q) : DutyW P ops Q a0 T F i := by
  intro o' ho' L vs a w h0 h1 h2 h3 h4 h5 h6
  rw [ho] at ho'
  injection ho' with ho'
  subst ho'
  have hw : Region.wanted o (yielded ops a.tmps) = true := by simp [Region.wanted, hg]
  rw [if_pos hw]
  exact h L vs a w h0 h1 h2 h3 h4 h5 h6
end
end Inv

/-- Such a region. F L i undef w, for an i that hasn't come up, is a fact on the world alone. -/
theorem region_byW {P : Program} {ops : Array Oper} {Q : Exit → Act → World → Prop} {a0 : Act} {id : Nat} {w : World} (n : Nat) (ds : List (Option Tmp)) (T : Nat → World → World → Prop) (F : (Nat → Bool) → Nat → Value → World → Prop) (hm : P.follows .mixedOrders = true) (hok : Inv.okB ops a0.tmps.size = true) (hn : ops.size = n) (hds : (List.range n).map (Inv.dstOf ops) = ds)
    (hF : ∀ (i j : Nat) (L : Nat → Bool) (v : Value) (x y : World), j ≠ i → L i = false → T i x y → F L j v x → F (Inv.moreT i L) j v y) (h0 : ∀ j, F (fun _ => false) j undef w.drew)
    (step : Inv.DutiesW P ops Q a0 T F n)
    (fin : ∀ vs L w', (∀ i, i < n → L i = true) → (∀ i, i < n → F L i (vs i) w') → Q .normal (Inv.putAll vs ds 0 a0) w') : (Code.region id ops true).wp P Q a0 w := by
  subst hn
  refine Inv.region_invV (fun L vs x => ∀ j, F L j (if L j = true then vs j else undef) x) hm hok (fun j => by rw [if_neg (by simp)]; exact h0 j) (fun i hi o ho L vs a x hli hlt hg hdep hup hev hout => ?_) (fun vs L w' hl hg => ?_)
  · have hd := Inv.dutiesW_all step i hi o ho L vs a x hli (by have := hg i; rwa [if_neg (by rw [hli]; simp)] at this) hdep hup (fun j hj => by have := hg j; rwa [if_pos hj] at this) hev hout
    have hnext : ∀ v y, T i x y → F (Inv.moreT i L) i v y → ∀ j, F (Inv.moreT i L) j (if Inv.moreT i L j = true then Inv.moreV i v vs j else undef) y := by
      intro v y ht hf j
      by_cases e : j = i
      · subst e
        rw [if_pos (by unfold Inv.moreT; simp), show Inv.moreV j v vs j = v by unfold Inv.moreV; rw [if_pos rfl]]
        exact hf
      · have h1 : Inv.moreT i L j = L j := by unfold Inv.moreT; rw [decide_eq_false (fun h => e h.symm), Bool.false_or]
        have h2 : Inv.moreV i v vs j = vs j := by unfold Inv.moreV; rw [if_neg e]
        rw [h1, h2]
        exact hF i j L _ x y e hli ht (hg j)
    split
    · rename_i hw
      rw [if_pos hw] at hd
      exact fun K hK => hd K (fun v w' ht hf => hK.out v w' (hnext v w' ht hf))
    · rename_i hw
      rw [if_neg hw] at hd
      exact hnext undef x hd.1 hd.2
  · rw [Inv.canon_putAll, hds]
    exact fin vs L w' hl (fun i hi => by have := hg i; rwa [if_pos (hl i hi)] at this)
end Go.Proofs.YtjonnamemmleiaaGreatDoor
