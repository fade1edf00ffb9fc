/- A Sealer beside a map; numbers of boxes as keys of a map of strings. -/
import Derived.Test.YtaanhancjmigdaaDoorSem
import Derived.Test.YtaanhancjmigdaaDoorSeg
import Derived.StringKeys
namespace Go.Proofs.YtaanhancjmigdaaDoor
open Go.RowKit Go.Maps

section
variable {P : Program} {k : TypeId} {α β : Type} {kv : α → Value} {vv : β → Value} {M : List (α × β)} {w : World} {ops : Array Oper} {rest : List Oper} {o : Oper} {a : Act} {Q : Exit → Act → World → Prop} {b : Nat} {t e : TypeId}
/-- The same behind a guard that is met. -/
theorem wpList_look1Outg [DecidableEq α] (K : Keyed P k) (hi : ∀ a b : α, kv a = kv b → a = b) (hw : Region.wanted o (yielded ops a.tmps) = true) (m x : Operand) (hop : o.op = Op.lookup t m x false) (ht : P.underlying t = some (.map k e)) {z : Value} (hz : ∀ w, (zeroValue e).run P w = .ok z w)
    (h : MT P k kv vv w b M) (hm : a.eval m = .map (some b)) (ky : α) (hok : OkK P k kv ky) (hx : a.eval x = kv ky) (hout : ky ∉ keysM M)
    (hK : wpList P ops Q rest (a.put o.dst z) w) : wpList P ops Q (o :: rest) a w := by
  have hh : Maps.has (datM P k kv vv M) (litOf P k kv ky) = false := by rw [has_datM K hi h.1 hok]; exact decide_eq_false hout
  refine wpList_step fun K' hK' => ?_
  rw [if_pos hw]
  obtain ⟨u, ps, hrun, hv⟩ := h.2.lookup K ht (hz w) (zd := .held z) (zp := []) rfl hok
  rw [Maps.atKey_of_not_has hh] at hv
  unfold RV at hv
  simp at hv
  rw [hv.1] at hrun
  unfold Oper.wp
  simp [execOp, hop, hm, hx, hrun, Result.andThen]
  exact hK' _ _ hK
theorem MT.wrs {w' : World} {s : Nat} {r : Option Nat} (h : MT P k kv vv w b M) (hw : Wrs w w' s r) (h1 : b ≠ s) (h2 : r ≠ some b) : MT P k kv vv w' b M := by
  have hlt := h.lt
  obtain ⟨hf, es, clock, hb, F⟩ := h
  exact ⟨hf, es, clock, (hw.block b hlt h1 (fun e => h2 e.symm)).trans hb, F⟩
theorem MT.noCell (h : MT P k kv vv w b M) {a : Addr} (ha : a.block = b) : w.cell? a = Option.none := by
  obtain ⟨hf, es, clock, hb, F⟩ := h
  unfold World.cell?
  rw [ha, hb]
theorem RB.offMap (h : MT P k kv vv w b M) {B : Nat} {A : Option Addr} {l : List UInt8} {c : Nat} (hr : RB w B A l c) : ∀ a, A = some a → l = [] ∨ some b ≠ some a.block := by
  intro a ha
  obtain ⟨-, -, h3⟩ := hr
  rcases h3 with ⟨h3, -⟩ | ⟨a', h3, h4⟩
  · rw [h3] at ha; cases ha
  · rw [h3] at ha
    injection ha with ha
    subst ha
    cases l with
    | nil => exact .inl rfl
    | cons u l =>
      right
      intro e
      injection e with e
      have h5 := (h4 0 u rfl).2
      rw [h.noCell (by unfold Addr.add; split <;> exact e.symm)] at h5
      cases h5
/-- What is written into a map leaves a Sealer alone. -/
theorem SS.offMap {w' : World} {B s d : Nat} {r : Option Nat} {T : List Te} (h : SS w B s r T d) (hM : MT P k kv vv w b M) (hg : w.grownBy w' (some b)) (hr : r ≠ some b) : SS w' B s r T d := by
  obtain ⟨h1, h2, v, rows, h0, h3, h4, h5, h6⟩ := h
  have hbs : s ≠ b := fun e => by
    have h7 := h3.at_ (i := 0) (v := .bool true) rfl
    rw [hM.noCell e] at h7
    cases h7
  refine ⟨h1, h2, v, rows, h0, h3.grown hg hbs, h4.row hg (by rw [h0]; exact hr), h5, fun k t ht => ?_⟩
  obtain ⟨A, c, h7, h8, h9⟩ := h6 k t ht
  exact ⟨A, c, h7, h8.apartS hg (RB.offMap hM h8), h9⟩
end
def strS (l : List UInt8) : Value := .string ⟨l.toArray⟩
theorem strS_inj (a b : List UInt8) (h : strS a = strS b) : a = b := by
  have := Value.string.inj h
  simpa using congrArg (fun x : ByteArray => x.data.toList) this
theorem keyedSS : Keyed Tryd.prog 9 := string_keyed Tryd.underlying9
theorem okSS (l : List UInt8) (h : l.length ≤ 1000000) : OkK Tryd.prog 9 strS l :=
  OkK.of (Go.WideMaps.keyOf_string_mk Tryd.underlying9 (by show l.toArray.size ≤ maxLen; unfold maxLen; rw [List.size_toArray]; omega))
theorem boxS_inj {key : List UInt8} {u : Int} {l : List UInt8} {n m : Nat} (hn : n < 18446744073709551616) (hm : m < 18446744073709551616) (h : boxS key u n l = boxS key u m l) : n = m := by
  have h1 : wide8 n = wide8 m := by rw [← boxS_num key u n l, ← boxS_num key u m l, h]
  rw [← numOf_wide n hn, ← numOf_wide m hm, h1]
/-- The boxes that were made. -/
def numM (f : Nat → List UInt8) (i : Nat) : List (List UInt8 × Bool) := (List.range i).map fun j => (f j, true)
theorem numM_len (f : Nat → List UInt8) (i : Nat) : (numM f i).length = i := by simp [numM]
theorem numM_no {f : Nat → List UInt8} (hf : ∀ n m, n < 100 → m < 100 → f n = f m → n = m) {i : Nat} (h : i < 100) : f i ∉ keysM (numM f i) := by
  intro hm
  obtain ⟨v, hv⟩ := mem_keysM.1 hm
  obtain ⟨j, hj, he⟩ := List.mem_map.1 hv
  have hji := List.mem_range.1 hj
  have := hf j i (by omega) h (Prod.mk.inj he).1
  omega
theorem numM_next {f : Nat → List UInt8} (hf : ∀ n m, n < 100 → m < 100 → f n = f m → n = m) {i : Nat} (h : i < 100) : withoutM (numM f i) (f i) ++ [(f i, true)] = numM f (i + 1) := by
  have h1 : withoutM (numM f i) (f i) = numM f i := by
    unfold withoutM
    rw [List.filter_eq_self]
    intro p hp
    exact decide_eq_true (fun e => numM_no hf h (mem_keysM.2 ⟨p.2, by rw [← e]; exact hp⟩))
  rw [h1]
  unfold numM
  rw [List.range_succ, List.map_append]
  rfl
end Go.Proofs.YtaanhancjmigdaaDoor
