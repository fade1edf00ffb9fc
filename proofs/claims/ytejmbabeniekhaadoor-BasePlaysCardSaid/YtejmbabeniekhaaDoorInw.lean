/- Regions that leave their order open, where what holds of a value may depend on which operations have come up. Plain lemmas, no program. -/
import Derived.Test.YtejmbabeniekhaaDoorInz
namespace Go.Proofs.YtejmbabeniekhaaDoor
open Go.RowKit

namespace Inv
/-- What is owed for one operation. -/
def DutyW (P : Program) (ops : Array Oper) (Q : Exit → Act → World → Prop) (a0 : Act) (T : Nat → World → World → Prop) (F : (Nat → Bool) → Nat → Value → World → Prop) (i : Nat) : Prop :=
  ∀ o, ops[i]? = some o → ∀ (L : Nat → Bool) (vs : Nat → Value) (a : Act) (w : World), L i = false → F L i undef w →
    (∀ e, afterB ops i e = true → L e = true) → (∀ j e, L j = true → afterB ops j e = true → L e = true) →
    (∀ j, L j = true → F L j (vs j) w) → (∀ j d, L j = true → dstOf ops j = some d → a.eval (.tmp d) = vs j) → (∀ d, (∀ j, L j = true → dstOf ops j ≠ some d) → a.eval (.tmp d) = a0.eval (.tmp d)) →
    if Region.wanted o (yielded ops a.tmps) = true then (∀ K : Act → World → Prop, Shut (∀ v w', T i w w' → F (moreT i L) i v w' → K (a.put o.dst v) w') → o.wp P a w K Q) else T i w w ∧ F (moreT i L) i undef w
def DutiesW (P : Program) (ops : Array Oper) (Q : Exit → Act → World → Prop) (a0 : Act) (T : Nat → World → World → Prop) (F : (Nat → Bool) → Nat → Value → World → Prop) : Nat → Prop
  | 0 => True
  | n + 1 => DutiesW P ops Q a0 T F n ∧ DutyW P ops Q a0 T F n
section
variable {P : Program} {ops : Array Oper} {Q : Exit → Act → World → Prop} {a0 : Act} {T : Nat → World → World → Prop} {F : (Nat → Bool) → Nat → Value → World → Prop}
theorem dutiesW_all : ∀ {n : Nat}, DutiesW P ops Q a0 T F n → ∀ i, i < n → DutyW P ops Q a0 T F i
  | 0, _, i, h => by omega
  | n + 1, h, i, hi => by
    by_cases e : i = n
    · subst e; exact h.2
    · exact dutiesW_all h.1 i (by omega)
theorem dutyW_plain {i : Nat} {o : Oper} (ho : ops[i]? = some o) (hg : o.guard = none)
    (h : ∀ (L : Nat → Bool) (vs : Nat → Value) (a : Act) (w : World), L i = false → F L i undef w →
      (∀ e, afterB ops i e = true → L e = true) → (∀ j e, L j = true → afterB ops j e = true → L e = true) →
      (∀ j, L j = true → F L j (vs j) w) → (∀ j d, L j = true → dstOf ops j = some d → a.eval (.tmp d) = vs j) → (∀ d, (∀ j, L j = true → dstOf ops j ≠ some d) → a.eval (.tmp d) = a0.eval (.tmp d)) →
      ∀ K : Act → World → Prop, Shut (∀ v w', T i w w' → F (moreT i L) i v w' → K (a.put o.dst v) w') → o.wp P a w K Q) : DutyW P ops Q a0 T F i := by
  intro o' ho' L vs a w h0 h1 h2 h3 h4 h5 h6
  rw [ho] at ho'
  injection ho' with ho'
  subst ho'
  have hw : Region.wanted o (yielded ops a.tmps) = true := by simp [Region.wanted, hg]
  rw [if_pos hw]
  exact h L vs a w h0 h1 h2 h3 h4 h5 h6
end
end Inv

/-- Such a region. F L i undef w, for an i that hasn't come up, is a fact on the world alone. -/
theorem region_byW {P : Program} {ops : Array Oper} {Q : Exit → Act → World → Prop} {a0 : Act} {id : Nat} {w : World} (n : Nat) (ds : List (Option Tmp)) (T : Nat → World → World → Prop) (F : (Nat → Bool) → Nat → Value → World → Prop) (hm : P.follows .mixedOrders = true) (hok : Inv.okB ops a0.tmps.size = true) (hn : ops.size = n) (hds : (List.range n).map (Inv.dstOf ops) = ds)
    (hF : ∀ (i j : Nat) (L : Nat → Bool) (v : Value) (x y : World), j ≠ i → L i = false → T i x y → F L j v x → F (Inv.moreT i L) j v y) (h0 : ∀ j, F (fun _ => false) j undef w.drew)
    (step : Inv.DutiesW P ops Q a0 T F n)
    (fin : ∀ vs L w', (∀ i, i < n → L i = true) → (∀ i, i < n → F L i (vs i) w') → Q .normal (Inv.putAll vs ds 0 a0) w') : (Code.region id ops true).wp P Q a0 w := by
  subst hn
  refine Inv.region_invV (fun L vs x => ∀ j, F L j (if L j = true then vs j else undef) x) hm hok (fun j => by rw [if_neg (by simp)]; exact h0 j) (fun i hi o ho L vs a x hli hlt hg hdep hup hev hout => ?_) (fun vs L w' hl hg => ?_)
  · have hd := Inv.dutiesW_all step i hi o ho L vs a x hli (by have := hg i; rwa [if_neg (by rw [hli]; simp)] at this) hdep hup (fun j hj => by have := hg j; rwa [if_pos hj] at this) hev hout
    have hnext : ∀ v y, T i x y → F (Inv.moreT i L) i v y → ∀ j, F (Inv.moreT i L) j (if Inv.moreT i L j = true then Inv.moreV i v vs j else undef) y := by
      intro v y ht hf j
      by_cases e : j = i
      · subst e
        rw [if_pos (by unfold Inv.moreT; simp), show Inv.moreV j v vs j = v by unfold Inv.moreV; rw [if_pos rfl]]
        exact hf
      · have h1 : Inv.moreT i L j = L j := by unfold Inv.moreT; rw [decide_eq_false (fun h => e h.symm), Bool.false_or]
        have h2 : Inv.moreV i v vs j = vs j := by unfold Inv.moreV; rw [if_neg e]
        rw [h1, h2]
        exact hF i j L _ x y e hli ht (hg j)
    split
    · rename_i hw
      rw [if_pos hw] at hd
      exact fun K hK => hd K (fun v w' ht hf => hK.out v w' (hnext v w' ht hf))
    · rename_i hw
      rw [if_neg hw] at hd
      exact hnext undef x hd.1 hd.2
  · rw [Inv.canon_putAll, hds]
    exact fin vs L w' hl (fun i hi => by have := hg i; rwa [if_pos (hl i hi)] at this)
end Go.Proofs.YtejmbabeniekhaaDoor
