/- The walk of the examples of the document. -/
import Derived.Test.YthgejidimnbplaaGreatDoorFld
import Derived.Lib.SlBytesConst
import Derived.Test.YthgejidimnbplaaGreatDoorReg
namespace Go.Proofs.YthgejidimnbplaaGreatDoor
open Go.RowKit

theorem RF.new1 (w w0 : World) (t : TypeId) (x : Int) (V : Option Addr) (v : List UInt8) (c n : Nat) (hn : n = v.length) (B : Nat) (hB : w.heap.size < B) (hr : RB w w.heap.size V v c)
    (hw : w0 = w.alloc (.cells #[.int .i64 x, .slice V n c] t)) : RF w0 B (some ⟨w.heap.size, 0, none⟩) [(x, v)] 1 := by
  subst hn hw
  refine ⟨Nat.le_refl _, by simp [maxLen], .inr ⟨_, rfl, fun k f hf => ⟨hB, ?_⟩⟩⟩
  match k, hf with
  | 0, hf =>
    simp at hf
    subst hf
    refine ⟨by simp [Addr.add], V, c, by simp [Addr.add], (hr.alloc (Nat.le_refl _) _).more (Nat.le_of_lt hB)⟩
  | k + 1, hf => simp at hf

theorem num_at (x : Int) (n : Nat) (hx : x = (n : Int)) (w : World) (hn : n < 18446744073709551616) :
    Calls Tryz.prog 26 #[.int .u64 x] w fun e w' => ∃ v, e = .returned v ∧ OwnB w' w.heap.size 5 v (numB n) ∧ Below w.heap.size w w' := by
  subst hx
  exact num_any n w hn

theorem join_at (A : Option Addr) (fs : List Fd) (n cap : Nat) (w : World) (hn : fs.length = n) (h : RF w w.heap.size A fs cap) (ht : ∀ f ∈ fs, -9223372036854775808 ≤ f.1 ∧ f.1 ≤ 9223372036854775807) (hs : tot fs ≤ 1000000000) :
    Calls Tryz.prog 41 #[.slice A n cap] w fun e w' => ∃ v, e = .returned (.tuple #[v, .int .i64 (joinOf fs []).2]) ∧ OwnB w' w.heap.size 5 v (joinOf fs []).1 ∧ Below w.heap.size w w' := by
  subst hn
  exact join_any A fs cap w h ht hs

end Go.Proofs.YthgejidimnbplaaGreatDoor
namespace Go.Proofs.YthgejidimnbplaaGreatDoor
open Go.RowKit

theorem leB_num : ∀ f n, n < 256 ^ f → numOf (leB f n).reverse = n
  | 0, n, h => by simp at h; subst h; rfl
  | f + 1, n, h => by
    unfold leB
    split
    · next h0 => subst h0; rfl
    · rw [List.reverse_cons, numOf_snoc, leB_num f (n / 256) (by rw [Nat.pow_succ] at h; omega)]
      simp; omega
theorem numOf_numB (n : Nat) (h : n < 18446744073709551616) : numOf (numB n) = n := leB_num 8 n h
theorem leB_last : ∀ f n, n < 256 ^ f → (leB f n).getLast? ≠ some 0
  | 0, n, h => by simp [leB]
  | f + 1, n, h => by
    unfold leB
    split
    · simp
    · next h0 =>
      have ih := leB_last f (n / 256) (by rw [Nat.pow_succ] at h; omega)
      rw [List.getLast?_cons]
      cases hl : (leB f (n / 256)).getLast? with
      | some x => rw [hl] at ih; simpa using ih
      | none =>
        rw [List.getLast?_eq_none_iff] at hl
        have hz : n / 256 = 0 := by
          cases f with
          | zero => rw [Nat.pow_succ] at h; simp at h; omega
          | succ f => unfold leB at hl; split at hl <;> simp_all
        simp only [Option.getD_none, ne_eq, Option.some.injEq]
        intro he
        have := congrArg UInt8.toNat he
        simp at this
        omega
theorem readOf_numB (n : Nat) (h : n < 18446744073709551616) : readOf (numB n) = (n, true) := by
  have h1 : (numB n).length ≤ 8 := by unfold numB; rw [List.length_reverse]; exact leB_length 8 n
  have h2 : (numB n).head? ≠ some 0 := by unfold numB; rw [List.head?_reverse]; exact leB_last 8 n h
  rw [readOf, if_pos ⟨h1, h2⟩, numOf_numB n h]
theorem leB_ext : ∀ (l : List UInt8) (f : Nat), l.length ≤ f → l.getLast? ≠ some 0 → leB f (numOf l.reverse) = l
  | [], f, _, _ => by cases f <;> rfl
  | c :: l, 0, h, _ => by simp at h
  | c :: l, f + 1, h, hl => by
    rw [List.reverse_cons, numOf_snoc]
    have hc := c.toNat_lt
    have hne : numOf l.reverse * 256 + c.toNat ≠ 0 := by
      intro h0
      cases l with
      | nil => simp [numOf] at h0; exact hl (by simp [← UInt8.toNat_inj, h0])
      | cons d l =>
        have hl' : (d :: l).getLast? ≠ some 0 := by rw [List.getLast?_cons_cons] at hl; exact hl
        have ih := leB_ext (d :: l) f (by simp at h ⊢; omega) hl'
        have hz : numOf (d :: l).reverse = 0 := by omega
        rw [hz] at ih
        cases f <;> simp [leB] at ih
    have hl' : l.getLast? ≠ some 0 := by
      cases l with
      | nil => simp
      | cons d l => rw [List.getLast?_cons_cons] at hl; exact hl
    unfold leB
    rw [if_neg hne, show (numOf l.reverse * 256 + c.toNat) / 256 = numOf l.reverse by omega, leB_ext l f (by simp at h; omega) hl']
    congr 1
    apply UInt8.toNat_inj.1
    simp
theorem numB_numOf (l : List UInt8) (h : readOf l = (numOf l, true)) : numB (numOf l) = l := by
  have h1 : l.length ≤ 8 ∧ l.head? ≠ some 0 := by
    unfold readOf at h
    split at h
    · assumption
    · simp at h
  have := leB_ext l.reverse 8 (by simpa using h1.1) (by rw [List.getLast?_reverse]; exact h1.2)
  rw [List.reverse_reverse] at this
  rw [numB, this, List.reverse_reverse]

theorem Below.undrew {B : Nat} {w w' : World} (h : Below B w.drew w') : Below B w w' := ⟨h.os, h.tape, h.output, h.size, h.block⟩

theorem and_low (k : Int) (j : Nat) (hj : j ≤ 62) : ∃ m : Nat, m < 2 ^ j ∧ bits .and .i64 k ((2 ^ j - 1 : Nat) : Int) = (m : Int) := by
  have hp : 2 ^ j ≤ 2 ^ 62 := Nat.pow_le_pow_right (by decide) hj
  have h2 : (2 : Nat) ^ 62 = 4611686018427387904 := by decide
  refine ⟨(BitVec.ofInt 64 k).toNat % 2 ^ j, Nat.mod_lt _ (Nat.two_pow_pos j), ?_⟩
  have hb : (BitVec.ofInt 64 (((2 ^ j - 1 : Nat) : Int))).toNat = 2 ^ j - 1 := by
    rw [BitVec.ofInt_natCast, BitVec.toNat_ofNat]
    exact Nat.mod_eq_of_lt (by omega)
  have hm := Nat.mod_lt (BitVec.ofInt 64 k).toNat (Nat.two_pow_pos j)
  show IntKind.i64.wrap (((BitVec.ofInt 64 k &&& BitVec.ofInt 64 ((2 ^ j - 1 : Nat) : Int)).toNat : Nat) : Int) = _
  rw [BitVec.toNat_and, hb, Nat.and_two_pow_sub_one_eq_mod, IntKind.wrap_i64]
  omega

end Go.Proofs.YthgejidimnbplaaGreatDoor
