/- Blocks of memory that hold a list of bytes from one end to the other, and lists that are laid piece by piece. Plain lemmas, no program. -/
import Derived.Test.YtjonnamemmleiaaGreatDoorReg
namespace Go.Proofs.YtjonnamemmleiaaGreatDoor
open Go.RowKit

/-- Block g, of type t, holds the bytes l and nothing else. -/
def BB (w : World) (g : Nat) (t : TypeId) (l : List UInt8) : Prop := w.heap[g]? = some (.cells (bcells l).toArray t (0, 0))

section
variable {w w' : World} {g : Nat} {t : TypeId} {l : List UInt8}
theorem BB.lt (h : BB w g t l) : g < w.heap.size := (Array.getElem?_eq_some_iff.1 h).1
theorem BB.new (w : World) (t : TypeId) (l : List UInt8) : BB (w.alloc (.cells (bcells l).toArray t)) w.heap.size t l := heap_alloc_new w _
theorem BB.below {B : Nat} (h : BB w g t l) (hb : Below B w w') (hg : g < B) : BB w' g t l := (hb.block g hg).trans h
theorem BB.alloc (h : BB w g t l) (o : Obj) : BB (w.alloc o) g t l := (Below.heap_alloc w o g h.lt).trans h
theorem BB.drew (h : BB w g t l) : BB w.drew g t l := h
theorem BB.drewN (h : BB w g t l) (n : Nat) : BB (w.drewN n) g t l := h
theorem BB.far (h : BB w g t l) {p : Addr} (hp : g ≠ p.block) (u : Value) : BB (w.setCell p u) g t l := (Below.heap_setCell w p u g hp).trans h
theorem BB.at_ (h : BB w g t l) {i : Nat} {u : UInt8} (hu : l[i]? = some u) : w.cell? ⟨g, i, none⟩ = some (.int .u8 (u.toNat : Int)) := by
  rw [cell_of_row w g i _ t (0, 0) h, List.getElem?_toArray, bcells_at, hu]
  rfl
theorem BB.cell (h : BB w g t l) {i : Nat} (hi : i < l.length) : w.cell? ⟨g, i, none⟩ = some (.int .u8 (l[i].toNat : Int)) := h.at_ (List.getElem?_eq_getElem hi)
theorem BB.free (h : BB w g t l) (i : Nat) : w.frozen? ⟨g, i, none⟩ = false := frozen_of_row w g i _ t h
theorem BB.set_ (h : BB w g t l) (i : Nat) (u : UInt8) (x : Int) (hx : x = (u.toNat : Int)) : BB (w.setCell ⟨g, i, none⟩ (.int .u8 x)) g t (l.set i u) := by
  subst hx
  unfold BB
  rw [heap_setCell_same w g i _ t _ h]
  congr 2
  simp [bcells, List.map_set]
end

/-! Lists that are laid piece by piece: the first k of a, behind them what b has. -/
def mix {α : Type} (a b : List α) (k : Nat) : List α := a.take k ++ b.drop k
theorem mix_zero {α : Type} (a b : List α) : mix a b 0 = b := by simp [mix]
theorem mix_all {α : Type} (a b : List α) {k : Nat} (h : b.length ≤ k) (ha : a.length ≤ k) : mix a b k = a := by
  rw [mix, List.take_of_length_le ha, List.drop_eq_nil_of_le h, List.append_nil]
theorem mix_length {α : Type} (a b : List α) (k : Nat) (h : a.length = b.length) : (mix a b k).length = b.length := by
  rw [mix, List.length_append, List.length_take, List.length_drop]
  omega
theorem mix_get {α : Type} (a b : List α) (h : a.length = b.length) (k i : Nat) (hi : k ≤ i) : (mix a b k)[i]? = b[i]? := by
  rw [mix]
  by_cases hk : k ≤ a.length
  · rw [List.getElem?_append_right (by rw [List.length_take]; omega), List.length_take, List.getElem?_drop]
    congr 1
    omega
  · rw [List.getElem?_eq_none (by rw [List.length_append, List.length_take, List.length_drop]; omega), List.getElem?_eq_none (by omega)]
theorem mix_low {α : Type} (a b : List α) (h : a.length = b.length) (k i : Nat) (hi : i < k) : (mix a b k)[i]? = a[i]? := by
  rw [mix]
  by_cases hia : i < a.length
  · rw [List.getElem?_append_left (by rw [List.length_take]; omega), List.getElem?_take_of_lt hi]
  · rw [List.getElem?_eq_none (by rw [List.length_append, List.length_take, List.length_drop]; omega), List.getElem?_eq_none (by omega)]
theorem mix_set {α : Type} (a b : List α) (h : a.length = b.length) (k : Nat) (u : α) (hu : a[k]? = some u) : (mix a b k).set k u = mix a b (k + 1) := by
  have hk : k < a.length := (List.getElem?_eq_some_iff.1 hu).1
  apply List.ext_getElem?
  intro i
  rw [List.getElem?_set]
  by_cases e : k = i
  · subst e
    rw [if_pos rfl, if_pos (by rw [mix_length _ _ _ h]; omega), mix_low a b h _ _ (Nat.lt_succ_self _), hu]
  · rw [if_neg e]
    by_cases hi : i < k
    · rw [mix_low a b h _ _ hi, mix_low a b h _ _ (by omega)]
    · rw [mix_get a b h _ _ (by omega), mix_get a b h _ _ (by omega)]

/-! Bytes and the operations of the walk. -/
theorem u8_ofInt (a : UInt8) : (BitVec.ofInt 8 (a.toNat : Int)) = a.toBitVec := by
  apply BitVec.eq_of_toNat_eq
  rw [BitVec.ofInt_natCast, BitVec.toNat_ofNat]
  exact Nat.mod_eq_of_lt a.toNat_lt
theorem u8_wrap (a : UInt8) : IntKind.u8.wrap (a.toNat : Int) = (a.toNat : Int) := by
  have := a.toNat_lt
  rw [show IntKind.u8.wrap (a.toNat : Int) = (a.toNat : Int) % 256 from rfl]
  omega
theorem xor_u8 (a b : UInt8) : bits .xor .u8 (a.toNat : Int) (b.toNat : Int) = ((a ^^^ b).toNat : Int) := by
  show IntKind.u8.wrap ((BitVec.ofInt 8 (a.toNat : Int) ^^^ BitVec.ofInt 8 (b.toNat : Int)).toNat : Int) = _
  rw [u8_ofInt, u8_ofInt]
  exact u8_wrap (a ^^^ b)
end Go.Proofs.YtjonnamemmleiaaGreatDoor
namespace Go.Proofs.YtjonnamemmleiaaGreatDoor
open Go.RowKit

/-- What the program says of a type of arrays of n bytes. -/
structure ArrT (P : Program) (t e : TypeId) (n : Nat) : Prop where
  ht : P.underlying t = some (.array n e)
  hi : (P.info? t).map (·.size) = some n

theorem bcells_size (l : List UInt8) : (bcells l).toArray.size = l.length := by simp [bcells]
theorem bcells_all (l : List UInt8) : (bcells l).toArray.all (·.oneCell') = true := by
  rw [Array.all_eq_true_iff_forall_mem]
  intro u hu
  exact bcells_one l u (by simpa using hu)

section
variable {P : Program} {w : World} {ops : Array Oper} {rest : List Oper} {o : Oper} {a : Act} {Q : Exit → Act → World → Prop} {ty e t : TypeId} {n g : Nat} {l l' : List UInt8}

theorem wpList_loadB (hT : ArrT P ty e n) (hgd : o.guard = none) (x : Operand) (ho : o.op = .load ty x) (h : BB w g t l) (hl : l.length = n) (hx : a.eval x = .pointer (some ⟨g, 0, none⟩))
    (hk : wpList P ops Q rest (a.put o.dst (.agg (bcells l).toArray)) w) : wpList P ops Q (o :: rest) a w :=
  wpList_load_row hgd ty x ho g hx t _ (0, 0) _ h hT.ht rfl (by rw [hT.hi, bcells_size, hl]) hk

theorem BB.setRow (h : BB w g t l) (l' : List UInt8) : BB (w.setRow g (bcells l').toArray) g t l' := setRow_heap w g _ _ t _ h
theorem grown_setRow (w : World) (g : Nat) (cs : Array Value) : w.grownBy (w.setRow g cs) (some g) :=
  ⟨rfl, rfl, rfl, by rw [size_setRow]; exact Nat.le_refl _, fun i _ hne => setRow_other w g i cs (fun e => hne (by rw [e]))⟩

theorem wpList_storeB (hT : ArrT P ty e n) (hgd : o.guard = none) (x y : Operand) (ho : o.op = .store ty x y) (h : BB w g t l) (hl : l.length = n) (hl' : l'.length = n) (hx : a.eval x = .pointer (some ⟨g, 0, none⟩)) (hy : a.eval y = .agg (bcells l').toArray)
    (hk : ∀ w', BB w' g t l' → w.grownBy w' (some g) → wpList P ops Q rest (a.put o.dst undef) w') : wpList P ops Q (o :: rest) a w :=
  wpList_store_row hgd ty x y ho g _ hx hy t _ h (by rw [hT.hi, bcells_size, hl']) (by rw [bcells_size, bcells_size, hl, hl']) (bcells_all l') (hk _ (h.setRow l') (grown_setRow _ _ _))
/-- The result that lies in a block. -/
theorem results_B {fn : Func} {p : Tmp} (hT : ArrT P ty e n) (hr : fn.results = #[.cell p ty]) (tmps : Array Value) (h : BB w g t l) (hl : l.length = n) (hp : tmps.getD p undef = .pointer (some ⟨g, 0, none⟩)) :
    (results fn tmps).run P w = .ok (.agg (bcells l).toArray) w :=
  results_cell_row hr tmps w g t _ (0, 0) _ hp h hT.ht rfl (by rw [hT.hi, bcells_size, hl])
end
theorem BB.grown {w w' : World} {g g' : Nat} {t : TypeId} {l : List UInt8} (h : BB w g t l) (hg : w.grownBy w' (some g')) (hne : g ≠ g') : BB w' g t l := (hg.block g h.lt (fun e => hne (by injection e))).trans h
theorem below_of_grown {B g : Nat} {w w' : World} (hg : w.grownBy w' (some g)) (hB : B ≤ g) (hs : B ≤ w.heap.size) : Below B w w' :=
  ⟨hg.os, hg.tape, hg.output, hg.size, fun i hi => hg.block i (Nat.lt_of_lt_of_le hi hs) (fun e => by injection e; omega)⟩
end Go.Proofs.YtjonnamemmleiaaGreatDoor
