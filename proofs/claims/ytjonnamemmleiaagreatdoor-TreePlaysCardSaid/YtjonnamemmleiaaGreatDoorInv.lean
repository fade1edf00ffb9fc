/- A region that leaves its order open, by one duty an operation: what each yields, and that this lasts while the others come up, in whatever order. Plain lemmas, no program. -/
import Derived.Test.YtjonnamemmleiaaGreatDoorReg
namespace Go.Proofs.YtjonnamemmleiaaGreatDoor
open Go.RowKit

namespace Inv
/-- Where an operation's value goes. -/
def dstOf (ops : Array Oper) (j : Nat) : Option Tmp := (ops[j]?).bind (·.dst)
/-- Does the one wait for the other? -/
def afterB (ops : Array Oper) (i e : Nat) : Bool := ((ops[i]?).map fun o => o.after.toList.any fun x => Region.binds .any x && x.on == e).getD false
/-- No operation of the region writes this slot. -/
def outB (ops : Array Oper) (d : Tmp) : Bool := ops.toList.all fun o => o.dst != some d
/-- Each operation waits for earlier ones alone, and has a slot of its own, which is there. -/
def okB (ops : Array Oper) (n : Nat) : Bool :=
  (List.range ops.size).all fun i => (((ops[i]?).map fun o => o.after.toList.all fun x => !Region.binds .any x || decide (x.on < i)).getD true) &&
    (match dstOf ops i with | none => true | some d => decide (d < n) && (List.range i).all fun j => dstOf ops j != some d)
/-- The first n operations' values where they go, as far as they have come up. -/
def canon (ops : Array Oper) (a0 : Act) (vs : Nat → Value) (L : Nat → Bool) : Nat → Act
  | 0 => a0
  | n + 1 => if L n = true then (canon ops a0 vs L n).put (dstOf ops n) (vs n) else canon ops a0 vs L n

section
variable {ops : Array Oper} {a0 : Act} {vs : Nat → Value} {L : Nat → Bool}

theorem okB_after {n : Nat} (h : okB ops n = true) {i e : Nat} (ha : afterB ops i e = true) : e < i := by
  unfold afterB at ha
  cases ho : ops[i]? with
  | none => rw [ho] at ha; simp at ha
  | some o =>
    have hi : i < ops.size := (Array.getElem?_eq_some_iff.1 ho).1
    have h1 := List.all_eq_true.1 h i (List.mem_range.2 hi)
    rw [ho] at ha h1
    simp only [Option.map_some, Option.getD_some, List.any_eq_true, Bool.and_eq_true, beq_iff_eq, List.all_eq_true] at ha h1
    obtain ⟨x, hx, hb, rfl⟩ := ha
    have h2 := h1.1 x hx
    rw [hb] at h2
    simpa using h2
theorem okB_dst {n : Nat} (h : okB ops n = true) {i : Nat} {d : Tmp} (hd : dstOf ops i = some d) : d < n ∧ ∀ j, j < i → dstOf ops j ≠ some d := by
  have hi : i < ops.size := by
    unfold dstOf at hd
    cases ho : ops[i]? with
    | none => rw [ho] at hd; simp at hd
    | some o => exact (Array.getElem?_eq_some_iff.1 ho).1
  have h1 := List.all_eq_true.1 h i (List.mem_range.2 hi)
  rw [hd] at h1
  simp only [Bool.and_eq_true, decide_eq_true_eq, List.all_eq_true, List.mem_range, bne_iff_ne, ne_eq] at h1
  exact ⟨h1.2.1, h1.2.2⟩
theorem okB_ne {n : Nat} (h : okB ops n = true) {i j : Nat} (hne : i ≠ j) : ∀ d, dstOf ops i = some d → dstOf ops j ≠ some d := by
  intro d hi hj
  rcases Nat.lt_or_gt_of_ne hne with hl | hl
  · exact (okB_dst h hj).2 i hl hi
  · exact (okB_dst h hi).2 j hl hj

theorem canon_congr {vs' : Nat → Value} {L' : Nat → Bool} : ∀ n, (∀ j, j < n → L j = L' j ∧ vs j = vs' j) → canon ops a0 vs L n = canon ops a0 vs' L' n
  | 0, _ => rfl
  | n + 1, h => by
    have ih := canon_congr n (fun j hj => h j (Nat.lt_succ_of_lt hj))
    have h1 := h n (Nat.lt_succ_self n)
    simp only [canon, ih, h1.1, h1.2]
theorem canon_put {k : Nat} (hok : okB ops k = true) (i : Nat) (v : Value) (hi : L i = false) : ∀ n, i < n →
    (canon ops a0 vs L n).put (dstOf ops i) v = canon ops a0 (fun j => if j = i then v else vs j) (fun j => decide (i = j) || L j) n
  | 0, h => by omega
  | n + 1, h => by
    by_cases e : i = n
    · subst e
      have hc : canon ops a0 vs L i = canon ops a0 (fun j => if j = i then v else vs j) (fun j => decide (i = j) || L j) i :=
        canon_congr i (fun j hj => ⟨by simp; omega, by rw [if_neg (by omega)]⟩)
      simp only [canon, hi, ← hc]
      simp
    · have ih := canon_put hok i v hi n (by omega)
      have hne : n ≠ i := fun h => e h.symm
      simp only [canon, ← ih]
      by_cases hl : L n = true
      · simp only [hl, if_true, Bool.or_true, if_neg hne]
        exact Act.put_comm _ _ _ (okB_ne hok hne)
      · simp [hl, e]
theorem canon_none : ∀ n, canon ops a0 vs (fun _ => false) n = a0
  | 0 => rfl
  | n + 1 => by simp [canon, canon_none n]
theorem canon_size : ∀ n, (canon ops a0 vs L n).tmps.size = a0.tmps.size
  | 0 => rfl
  | n + 1 => by
    have ih := canon_size n
    unfold canon
    split
    · cases dstOf ops n <;> simp [Act.put, ih]
    · exact ih
theorem canon_defers : ∀ n, (canon ops a0 vs L n).defers = a0.defers
  | 0 => rfl
  | n + 1 => by
    have ih := canon_defers n
    unfold canon
    split
    · cases dstOf ops n <;> simp [Act.put, ih]
    · exact ih
theorem put_eval_ne (a : Act) (x : Option Tmp) (v : Value) (d : Tmp) (h : x ≠ some d) : (a.put x v).eval (.tmp d) = a.eval (.tmp d) := by
  cases x with
  | none => rfl
  | some e =>
    have hne : e ≠ d := fun he => h (by rw [he])
    simp [Act.eval, Act.put, Array.getElem?_setIfInBounds_ne hne]
theorem put_eval_same (a : Act) (v : Value) (d : Tmp) (h : d < a.tmps.size) : (a.put (some d) v).eval (.tmp d) = v := by
  simp [Act.eval, Act.put, h]
theorem canon_out (d : Tmp) (h : outB ops d = true) : ∀ n, (canon ops a0 vs L n).eval (.tmp d) = a0.eval (.tmp d)
  | 0 => rfl
  | n + 1 => by
    have ih := canon_out d h n
    have hne : dstOf ops n ≠ some d := by
      unfold dstOf
      cases ho : ops[n]? with
      | none => simp
      | some o =>
        have hm : o ∈ ops.toList := Array.mem_toList_iff.2 (Array.mem_of_getElem? ho)
        have := List.all_eq_true.1 h o hm
        simpa using this
    unfold canon
    split
    · rw [put_eval_ne _ _ _ _ hne, ih]
    · exact ih
theorem canon_eval {k : Nat} (hok : okB ops k = true) (hk : k = a0.tmps.size) (j : Nat) (d : Tmp) (hd : dstOf ops j = some d) (hl : L j = true) : ∀ n, j < n → (canon ops a0 vs L n).eval (.tmp d) = vs j
  | 0, h => by omega
  | n + 1, h => by
    by_cases e : j = n
    · subst e
      unfold canon
      rw [if_pos hl, hd]
      exact put_eval_same _ _ _ (by rw [canon_size, ← hk]; exact (okB_dst hok hd).1)
    · have ih := canon_eval hok hk j d hd hl n (by omega)
      unfold canon
      split
      · rw [put_eval_ne _ _ _ _ (fun h2 => okB_ne hok e d hd h2), ih]
      · exact ih
theorem getD_set (l : Array Bool) (i j : Nat) (hi : i < l.size) : (l.setIfInBounds i true).getD j false = (decide (i = j) || l.getD j false) := by
  by_cases e : i = j
  · subst e; simp [hi]
  · simp [e, Array.getElem?_setIfInBounds_ne e]
end

section
variable {P : Program} {ops : Array Oper} {Q : Exit → Act → World → Prop}

/-- What is owed for one operation. -/
def Duty (P : Program) (ops : Array Oper) (Q : Exit → Act → World → Prop) (a0 : Act) (T : World → World → Prop) (G : World → Prop) (F : Nat → Value → World → Prop) (i : Nat) : Prop :=
  ∀ o, ops[i]? = some o → ∀ (L : Nat → Bool) (vs : Nat → Value) (a : Act) (w : World), G w →
    (∀ e, afterB ops i e = true → L e = true) → (∀ j e, L j = true → afterB ops j e = true → L e = true) →
    (∀ j, L j = true → F j (vs j) w) → (∀ j d, L j = true → dstOf ops j = some d → a.eval (.tmp d) = vs j) → (∀ d, outB ops d = true → a.eval (.tmp d) = a0.eval (.tmp d)) →
    if Region.wanted o (yielded ops a.tmps) = true then (∀ K : Act → World → Prop, Shut (∀ v w', T w w' → F i v w' → K (a.put o.dst v) w') → o.wp P a w K Q) else T w w ∧ F i undef w

theorem any_of_inv {k : Nat} (hok : okB ops k = true) (I : Array Bool → Act → World → Prop)
    (step : ∀ i o, ops[i]? = some o → ∀ listed a w, listed.size = ops.size → listed.getD i false = false → (∀ e, afterB ops i e = true → listed.getD e false = true) → I listed a w → wpOp P ops Q i (fun a' w' => I (listed.setIfInBounds i true) a' w') a w)
    (fin : ∀ listed a w, listed.size = ops.size → (∀ i, i < ops.size → listed.getD i false = true) → I listed a w → Q .normal a w) :
    ∀ fuel listed a w, listed.size = ops.size → listed.countP (· == false) ≤ fuel → I listed a w → wpAny P .any ops Q fuel listed a w := by
  have hall : ∀ (listed : Array Bool), listed.size = ops.size → Region.ready .any ops listed = [] → ∀ i, i < ops.size → listed.getD i false = true := by
    intro listed hs hr i
    induction i using Nat.strongRecOn with
    | ind i ih =>
      intro hi
      cases hl : listed.getD i false with
      | true => rfl
      | false =>
        have hm : i ∈ Region.ready .any ops listed := by
          refine mem_ready.2 ⟨?_, ops[i], Array.getElem?_eq_getElem hi, fun e he hb => ?_⟩
          · have hi' : i < listed.size := by omega
            simpa [hi'] using hl
          · have ha : afterB ops i e.on = true := by
              unfold afterB
              rw [Array.getElem?_eq_getElem hi]
              simp only [Option.map_some, Option.getD_some, List.any_eq_true, Bool.and_eq_true, beq_iff_eq]
              exact ⟨e, Array.mem_toList_iff.2 he, hb, rfl⟩
            have hlt := okB_after hok ha
            exact ih e.on hlt (by omega)
        rw [hr] at hm
        cases hm
  intro fuel
  induction fuel with
  | zero =>
    intro listed a w hs hc hI
    have hA : ∀ i, i < ops.size → listed.getD i false = true := by
      intro i hi
      have hi' : i < listed.size := by omega
      have h0 : listed.countP (· == false) = 0 := by omega
      have := Array.countP_eq_zero.1 h0 listed[i] (Array.getElem_mem hi')
      simpa [hi'] using this
    refine ⟨?_, fin listed a w hs hA hI⟩
    apply List.eq_nil_iff_forall_not_mem.2
    intro j hj
    obtain ⟨h1, o, ho, _⟩ := mem_ready.1 hj
    have hjl : j < ops.size := (Array.getElem?_eq_some_iff.1 ho).1
    have h2 := hA j hjl
    have hj' : j < listed.size := by omega
    simp [hj'] at h1 h2
    rw [h1] at h2
    cases h2
  | succ fuel ih =>
    intro listed a w hs hc hI
    refine ⟨fun h0 => fin listed a w hs (hall listed hs h0) hI, fun i hi => ?_⟩
    obtain ⟨h1, o, ho, h2⟩ := mem_ready.1 hi
    have hil : i < ops.size := (Array.getElem?_eq_some_iff.1 ho).1
    have hi' : i < listed.size := by omega
    have hfl : listed[i] = false := by simpa [hi'] using h1
    have hgf : listed.getD i false = false := by simp [hi', hfl]
    refine wpOp_mono (fun a' w' hI' => ih _ a' w' (by simp [hs]) ?_ hI') (step i o ho listed a w hs hgf (fun e he => ?_) hI)
    · have e1 : listed.setIfInBounds i true = listed.set i true hi' := by simp [Array.setIfInBounds, hi']
      have h3 : (listed.set i true hi').countP (· == false) = listed.countP (· == false) - (if (listed[i] == false) = true then 1 else 0) + (if (true == false) = true then 1 else 0) := Array.countP_set hi'
      rw [hfl] at h3
      have h4 : (listed.set i true hi').countP (· == false) = listed.countP (· == false) - 1 := h3
      rw [e1, h4]
      omega
    · unfold afterB at he
      rw [ho] at he
      simp only [Option.map_some, Option.getD_some, List.any_eq_true, Bool.and_eq_true, beq_iff_eq] at he
      obtain ⟨x, hx, hb, rfl⟩ := he
      exact h2 x (Array.mem_toList_iff.1 hx) hb

theorem region_inv {id : Nat} {a0 : Act} {w : World} (T : World → World → Prop) (G : World → Prop) (F : Nat → Value → World → Prop) (hm : P.follows .mixedOrders = true) (hok : okB ops a0.tmps.size = true)
    (hG : ∀ x y, T x y → G x → G y) (hF : ∀ j v x y, T x y → G x → F j v x → F j v y) (h0 : G w.drew)
    (step : ∀ i, i < ops.size → Duty P ops Q a0 T G F i)
    (fin : ∀ vs w', G w' → (∀ i, i < ops.size → F i (vs i) w') → Q .normal (canon ops a0 vs (fun _ => true) ops.size) w') : (Code.region id ops true).wp P Q a0 w := by
  have hrep : ∀ (n j : Nat), (Array.replicate n false).getD j false = false := by
    intro n j
    by_cases h : j < n
    · simp [h]
    · simp [h]
  refine wp_region_any hm (any_of_inv hok (fun listed a w' => G w' ∧ (∀ j e, listed.getD j false = true → afterB ops j e = true → listed.getD e false = true) ∧ ∃ vs, a = canon ops a0 vs (fun j => listed.getD j false) ops.size ∧ ∀ j, j < ops.size → listed.getD j false = true → F j (vs j) w') ?_ ?_ ops.size _ _ _ (by simp) (by rw [Array.countP_replicate]; simp) ⟨h0, ?_, fun _ => undef, ?_, ?_⟩)
  · rintro i o ho listed a wa hs hgf hdep ⟨hg, hup, vs, rfl, hv⟩
    have hil : i < ops.size := (Array.getElem?_eq_some_iff.1 ho).1
    have hi' : i < listed.size := by omega
    have hd : dstOf ops i = o.dst := by simp [dstOf, ho]
    have hlt : ∀ j, listed.getD j false = true → j < ops.size := by
      intro j hj
      rcases Nat.lt_or_ge j listed.size with h | h
      · omega
      · simp [Array.getElem?_eq_none h] at hj
    have hduty := step i hil o ho (fun j => listed.getD j false) vs _ wa hg hdep hup (fun j hj => hv j (hlt j hj) hj) (fun j d hj hd' => canon_eval (k := a0.tmps.size) hok rfl j d hd' hj ops.size (hlt j hj)) (fun d hd' => canon_out d hd' ops.size)
    have hnext : ∀ v w', T wa w' → F i v w' → (fun a' w' => G w' ∧ (∀ j e, (listed.setIfInBounds i true).getD j false = true → afterB ops j e = true → (listed.setIfInBounds i true).getD e false = true) ∧ ∃ vs, a' = canon ops a0 vs (fun j => (listed.setIfInBounds i true).getD j false) ops.size ∧ ∀ j, j < ops.size → (listed.setIfInBounds i true).getD j false = true → F j (vs j) w') ((canon ops a0 vs (fun j => listed.getD j false) ops.size).put o.dst v) w' := by
      intro v w' hT hFi
      have hL : (fun j => (listed.setIfInBounds i true).getD j false) = fun j => decide (i = j) || listed.getD j false := funext fun j => getD_set listed i j hi'
      refine ⟨hG _ _ hT hg, fun j e hj he => ?_, fun j => if j = i then v else vs j, ?_, fun j hj hl => ?_⟩
      · rw [getD_set listed i j hi'] at hj
        rw [getD_set listed i e hi']
        by_cases e1 : i = j
        · subst e1
          rw [hdep e he]
          simp
        · rw [hup j e (by simpa [e1] using hj) he]
          simp
      · rw [hL, ← hd]
        exact canon_put (k := a0.tmps.size) hok i v hgf ops.size hil
      · rw [getD_set listed i j hi'] at hl
        by_cases e1 : j = i
        · subst e1
          simpa using hFi
        · simp only [if_neg e1]
          exact hF j _ _ _ hT hg (hv j hj (by simpa [Ne.symm e1] using hl))
    unfold wpOp
    rw [ho]
    by_cases hw : Region.wanted o (yielded ops (canon ops a0 vs (fun j => listed.getD j false) ops.size).tmps) = true
    · simp only [hw, if_true] at hduty ⊢
      exact .inl (hduty _ hnext)
    · simp only [hw] at hduty ⊢
      exact hnext undef wa hduty.1 hduty.2
  · rintro listed a wa hs hall ⟨hg, _, vs, rfl, hv⟩
    rw [canon_congr (vs' := vs) (L' := fun _ => true) ops.size (fun j hj => ⟨hall j hj, rfl⟩)]
    exact fin vs wa hg (fun i hi => hv i hi (hall i hi))
  · intro j e hj
    rw [hrep] at hj
    cases hj
  · rw [canon_congr (vs' := fun _ => undef) (L' := fun _ => false) ops.size (fun j hj => ⟨hrep _ j, rfl⟩)]
    exact (canon_none _).symm
  · intro j hj hl
    rw [hrep] at hl
    cases hl
end

/-- The values of all operations where they go, one behind the other. -/
def putAll (vs : Nat → Value) : List (Option Tmp) → Nat → Act → Act
  | [], _, a => a
  | d :: ds, j, a => putAll vs ds (j + 1) (a.put d (vs j))
theorem putAll_snoc (vs : Nat → Value) (d : Option Tmp) : ∀ (l : List (Option Tmp)) (j : Nat) (a : Act), putAll vs (l ++ [d]) j a = (putAll vs l j a).put d (vs (j + l.length))
  | [], _, _ => rfl
  | e :: l, j, a => by
    rw [List.cons_append, putAll, putAll, putAll_snoc vs d l (j + 1), List.length_cons]
    congr 2
    omega
theorem canon_putAll (ops : Array Oper) (a0 : Act) (vs : Nat → Value) : ∀ n, canon ops a0 vs (fun _ => true) n = putAll vs ((List.range n).map (dstOf ops)) 0 a0
  | 0 => rfl
  | n + 1 => by
    rw [List.range_succ, List.map_append, List.map_cons, List.map_nil, putAll_snoc, ← canon_putAll ops a0 vs n, canon, if_pos rfl, List.length_map, List.length_range, Nat.zero_add]

/-- The duties of the first n operations. -/
def Duties (P : Program) (ops : Array Oper) (Q : Exit → Act → World → Prop) (a0 : Act) (T : World → World → Prop) (G : World → Prop) (F : Nat → Value → World → Prop) : Nat → Prop
  | 0 => True
  | n + 1 => Duties P ops Q a0 T G F n ∧ Duty P ops Q a0 T G F n
section
variable {P : Program} {ops : Array Oper} {Q : Exit → Act → World → Prop} {a0 : Act} {T : World → World → Prop} {G : World → Prop} {F : Nat → Value → World → Prop}
theorem duties_all : ∀ {n : Nat}, Duties P ops Q a0 T G F n → ∀ i, i < n → Duty P ops Q a0 T G F i
  | 0, _, i, h => by omega
  | n + 1, h, i, hi => by
    by_cases e : i = n
    · subst e; exact h.2
    · exact duties_all h.1 i (by omega)
/-- A region by its operations' duties; T: only new memory is made. -/
theorem region_made {id : Nat} {w : World} (n : Nat) (ds : List (Option Tmp)) (G : World → Prop) (F : Nat → Value → World → Prop) (hm : P.follows .mixedOrders = true) (hok : okB ops a0.tmps.size = true) (hn : ops.size = n) (hds : (List.range n).map (dstOf ops) = ds)
    (hG : ∀ x y, World.grownBy x y none → G x → G y) (hF : ∀ j v x y, World.grownBy x y none → G x → F j v x → F j v y) (h0 : G w.drew)
    (step : Duties P ops Q a0 (fun x y => World.grownBy x y none) G F n)
    (fin : ∀ vs w', G w' → (∀ i, i < n → F i (vs i) w') → Q .normal (putAll vs ds 0 a0) w') : (Code.region id ops true).wp P Q a0 w := by
  subst hn
  refine region_inv (fun x y => World.grownBy x y none) G F hm hok hG hF h0 (duties_all step) (fun vs w' hg hf => ?_)
  rw [canon_putAll, hds]
  exact fin vs w' hg hf
/-- The duty of an operation that isn't guarded. -/
theorem duty_plain {i : Nat} {o : Oper} (ho : ops[i]? = some o) (hg : o.guard = none)
    (h : ∀ (L : Nat → Bool) (vs : Nat → Value) (a : Act) (w : World), G w →
      (∀ e, afterB ops i e = true → L e = true) → (∀ j e, L j = true → afterB ops j e = true → L e = true) →
      (∀ j, L j = true → F j (vs j) w) → (∀ j d, L j = true → dstOf ops j = some d → a.eval (.tmp d) = vs j) → (∀ d, outB ops d = true → a.eval (.tmp d) = a0.eval (.tmp d)) →
      ∀ K : Act → World → Prop, Shut (∀ v w', T w w' → F i v w' → K (a.put o.dst v) w') → o.wp P a w K Q) : Duty P ops Q a0 T G F i := by
  intro o' ho' L vs a w h1 h2 h3 h4 h5 h6
  rw [ho] at ho'
  injection ho' with ho'
  subst ho'
  have hw : Region.wanted o (yielded ops a.tmps) = true := by simp [Region.wanted, hg]
  rw [if_pos hw]
  exact h L vs a w h1 h2 h3 h4 h5 h6
theorem wp_value {o : Oper} {a : Act} {w : World} {K : Act → World → Prop} {v : Value} (h : (execOp a.eval o).run P w = .ok (.value v) w) (hk : K (a.put o.dst v) w) : o.wp P a w K Q := by
  unfold Oper.wp
  rw [h]
  exact hk
theorem wp_value' {o : Oper} {a : Act} {w w' : World} {K : Act → World → Prop} {v : Value} (h : (execOp a.eval o).run P w = .ok (.value v) w') (hk : K (a.put o.dst v) w') : o.wp P a w K Q := by
  unfold Oper.wp
  rw [h]
  exact hk
theorem wp_call {o : Oper} {a : Act} {w : World} {K : Act → World → Prop} {f : FuncId} {args : Array Value} (h : (execOp a.eval o).run P w = .ok (.enter f args) w)
    (hc : Calls P f args w fun e w' => ∃ v, e = .returned v ∧ K (a.put o.dst v) w') : o.wp P a w K Q := by
  unfold Oper.wp
  rw [h, Oper.upon_enter]
  refine hc.mono ?_
  rintro e w' ⟨v, rfl, hk⟩
  exact hk
end
end Inv
end Go.Proofs.YtjonnamemmleiaaGreatDoor
