/- What Mkdir and Write answer. Plain lemmas. -/
import Derived.Test.YtmbmahpklkcioaaDoorTrr
namespace Go.Proofs.YtmbmahpklkcioaaDoor
open Go.RowKit Go.Maps Go.WideMaps

/-- A path's parent. -/
def parOf (p : List UInt8) : List UInt8 := p.take (max (p.length - 1 - (p.reverse.takeWhile (fun c => !(c == 47))).length) 1)
theorem takeWhile_rev (a b : List UInt8) (hb : (47 : UInt8) ∉ b) : ((a ++ 47 :: b).reverse.takeWhile (fun c => !(c == 47))).length = b.length := by
  rw [List.reverse_append, List.reverse_cons, List.append_assoc]
  have h : ∀ (r s : List UInt8), (47 : UInt8) ∉ r → (r ++ ([47] ++ s)).takeWhile (fun c => !(c == 47)) = r := by
    intro r s hr
    induction r with
    | nil => rfl
    | cons x r ih =>
      have hx : x ≠ 47 := fun e => hr (by rw [e]; exact List.mem_cons_self)
      rw [List.cons_append, List.takeWhile_cons, beq_eq_false_iff_ne.2 hx]
      simp only [Bool.not_false, if_true]
      rw [ih (fun e => hr (List.mem_cons_of_mem _ e))]
  rw [h b.reverse a.reverse (by simpa using hb), List.length_reverse]
theorem parOf_eq {p a b : List UInt8} (h : p = a ++ 47 :: b) (hb : (47 : UInt8) ∉ b) : parOf p = p.take (max a.length 1) := by
  unfold parOf
  rw [h, takeWhile_rev a b hb, List.length_append, List.length_cons]
  congr 1
  congr 1
  omega
/-- May a node be made at a path to which one came? -/
def addC (M : List (List UInt8 × Nd)) (who : ByteArray) (p : List UInt8) : Int := match M.lookup (parOf p) with
  | none => 0
  | some n => if mayOk who 2 n.owner n.mode = false then 114 else if 64 ≤ M.length then 2 else 0
def mkdirC (M : List (List UInt8 × Nd)) (who : ByteArray) (p : List UInt8) (m : Int) : Int :=
  if (comeR M who p).2 ≠ 0 then (comeR M who p).2 else if ¬ (0 ≤ m ∧ m ≤ 63) then 1 else match M.lookup p with
    | some _ => 111
    | none => addC M who p
def writeC (M : List (List UInt8 × Nd)) (who : ByteArray) (p : List UInt8) (len : Nat) (m : Int) : Int :=
  if (comeR M who p).2 ≠ 0 then (comeR M who p).2 else if ¬ (0 ≤ m ∧ m ≤ 63) then 1 else if 1000 < len then 23 else match M.lookup p with
    | none => addC M who p
    | some n => if n.dir = true then 113 else if mayOk who 2 n.owner n.mode = false then 114 else 0
theorem come_path {M : List (List UInt8 × Nd)} {who : ByteArray} {p : List UInt8} (h : (comeR M who p).2 = 0) : pathOk p = true ∧ comeE M who (aheads p) = 0 := by
  unfold comeR at h
  split at h
  · cases h
  · rename_i h1
    split at h
    · rename_i h2
      exact ⟨by cases hp : pathOk p <;> simp_all, h2⟩
    · rename_i h2
      exact absurd h h2
/-- Where there is no node at a path to which one came, there is its parent. -/
theorem parent_in {M : List (List UInt8 × Nd)} {who : ByteArray} {p : List UInt8} (h : (comeR M who p).2 = 0) (ht : ∃ n, M.lookup [47] = some n) (hn : M.lookup p = none) :
    ∃ a b n, p = a ++ 47 :: b ∧ (47 : UInt8) ∉ b ∧ parOf p = p.take (max a.length 1) ∧ M.lookup (parOf p) = some n ∧ n.dir = true := by
  obtain ⟨h1, h2⟩ := come_path h
  have hne : p ≠ [47] := by
    intro e
    obtain ⟨n, ht⟩ := ht
    rw [e, ht] at hn
    cases hn
  obtain ⟨a, b, hab, hb, hin⟩ := parent_on h1 hne
  obtain ⟨n, hl, hd⟩ := comeE_all h2 _ hin
  rw [← parOf_eq hab hb] at hin hl
  exact ⟨a, b, n, hab, hb, parOf_eq hab hb, hl, hd⟩
end Go.Proofs.YtmbmahpklkcioaaDoor
