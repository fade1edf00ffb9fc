/- A Tree; come. -/
import Derived.Test.YtmbmahpklkcioaaDoorTrg
import Derived.Maps.OwnIn
namespace Go.Proofs.YtmbmahpklkcioaaDoor
open Go.RowKit Go.Shelf Go.Maps
attribute [local go_sem] Oper.semAt_some

section
variable {P : Program} {F : Fence} {nF : Nat} {k : TypeId} {α β : Type} {kv : α → Value} {vv : β → Value} {M : List (α × β)} {w : World} {ops : Array Oper} {rest : List Oper} {o : Oper} {a : Act} {Q : Exit → Act → World → Prop} {b : Nat} {t e : TypeId}
theorem wpListIn_look1In (K : Keyed P k) (hi : ∀ a b : α, kv a = kv b → a = b) (hg : o.guard = none) (m x : Operand) (hop : o.op = Op.lookup t m x false) (ht : P.underlying t = some (.map k e)) {z : Value} (hz : ∀ w, (zeroValue e).run P w = .ok z w)
    (h : MT P k kv vv w b M) (hm : a.eval m = .map (some b)) (ky : α) (v : β) (hx : a.eval x = kv ky) (hin : (ky, v) ∈ M)
    (hK : wpListIn F nF P ops Q rest (a.put o.dst (vv v)) w) : wpListIn F nF P ops Q (o :: rest) a w := by
  have hok : OkK P k kv ky := h.1.2 ky (mem_keysM.2 ⟨v, hin⟩)
  refine wpListIn_plain hg fun K' hK' => ?_
  obtain ⟨u, ps, hrun, hv⟩ := h.2.lookup K ht (hz w) (zd := .held z) (zp := []) rfl hok
  rw [at_datM K hi h.1 hin] at hv
  unfold RV at hv
  simp at hv
  rw [hv.1] at hrun
  unfold Oper.wpIn
  refine ⟨by simp [Oper.about, hop], ?_⟩
  rw [Oper.semAt_plain F _ _ (by rw [hop]; intro c hc'; cases hc')]
  simp [execOp, hop, hm, hx, hrun, Result.andThen]
  exact hK' _ _ hK
variable [DecidableEq α]
theorem wpListIn_look1Out (K : Keyed P k) (hi : ∀ a b : α, kv a = kv b → a = b) (hg : o.guard = none) (m x : Operand) (hop : o.op = Op.lookup t m x false) (ht : P.underlying t = some (.map k e)) {z : Value} (hz : ∀ w, (zeroValue e).run P w = .ok z w)
    (h : MT P k kv vv w b M) (hm : a.eval m = .map (some b)) (ky : α) (hok : OkK P k kv ky) (hx : a.eval x = kv ky) (hout : ky ∉ keysM M)
    (hK : wpListIn F nF P ops Q rest (a.put o.dst z) w) : wpListIn F nF P ops Q (o :: rest) a w := by
  have hh : Maps.has (datM P k kv vv M) (litOf P k kv ky) = false := by rw [has_datM K hi h.1 hok]; exact decide_eq_false hout
  refine wpListIn_plain hg fun K' hK' => ?_
  obtain ⟨v, ps, hrun, hv⟩ := h.2.lookup K ht (hz w) (zd := .held z) (zp := []) rfl hok
  rw [Maps.atKey_of_not_has hh] at hv
  unfold RV at hv
  simp at hv
  rw [hv.1] at hrun
  unfold Oper.wpIn
  refine ⟨by simp [Oper.about, hop], ?_⟩
  rw [Oper.semAt_plain F _ _ (by rw [hop]; intro c hc'; cases hc')]
  simp [execOp, hop, hm, hx, hrun, Result.andThen]
  exact hK' _ _ hK
end

/-- What the program keeps of a node: its block, and what lies there. -/
structure Nd where
  blk : Nat
  dir : Bool
  owner : ByteArray
  mode : Nat
  data : Value
def kS (p : List UInt8) : Value := .string ⟨p.toArray⟩
def vN (n : Nd) : Value := .pointer (some ⟨n.blk, 0, none⟩)
theorem kS_inj (a b : List UInt8) (h : kS a = kS b) : a = b := by
  unfold kS at h
  injection h with h
  injection h with h
  simpa using congrArg Array.toList h
/-- A Tree lies at block tb: its map at mb, its nodes in blocks of their own. -/
structure TR (w : World) (tb mb : Nat) (M : List (List UInt8 × Nd)) : Prop where
  top : w.heap[tb]? = some (.cells #[.map (some mb)] 53 (0, 0))
  map : MT Tryd.prog 9 kS vN w mb M
  nodes : ∀ p n, (p, n) ∈ M → CB w n.blk 42 (nodeC ⟨p.toArray⟩ n.dir n.owner n.mode n.data) ∧ n.mode < 64
def comeE (M : List (List UInt8 × Nd)) (who : ByteArray) : List (List UInt8) → Int
  | [] => 0
  | d :: ds => match M.lookup d with
    | none => 110
    | some n => if n.dir = false then 112 else if mayOk who 1 n.owner n.mode = false then 114 else comeE M who ds
theorem comeE_app (M : List (List UInt8 × Nd)) (who : ByteArray) (r : List (List UInt8)) : ∀ ds, comeE M who (ds ++ r) = if comeE M who ds = 0 then comeE M who r else comeE M who ds
  | [] => by simp [comeE]
  | d :: ds => by
    rw [List.cons_append, comeE, comeE]
    cases M.lookup d with
    | none => rfl
    | some n =>
      simp only
      by_cases h1 : n.dir = false
      · rw [if_pos h1, if_pos h1]; rfl
      · rw [if_neg h1, if_neg h1]
        by_cases h2 : mayOk who 1 n.owner n.mode = false
        · rw [if_pos h2, if_pos h2]; rfl
        · rw [if_neg h2, if_neg h2]; exact comeE_app M who r ds
end Go.Proofs.YtmbmahpklkcioaaDoor
