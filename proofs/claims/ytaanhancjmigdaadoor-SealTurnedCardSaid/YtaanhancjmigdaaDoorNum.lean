/- The walks of the functions on numbers: Read and Num of tlv and of the document's answer. -/
import Derived.Test.YtaanhancjmigdaaDoorProg
import Derived.Test.YtaanhancjmigdaaDoorLib
import Derived.BigQuiet
import Derived.Deep.QuietTactic
import Derived.Outline
namespace Go.Proofs.YtaanhancjmigdaaDoor
open Go.RowKit

def numOf (l : List UInt8) : Nat := l.foldl (fun n c => n * 256 + c.toNat) 0
theorem numOf_snoc (l : List UInt8) (c : UInt8) : numOf (l ++ [c]) = numOf l * 256 + c.toNat := by simp [numOf, List.foldl_append]
theorem numOf_take (l : List UInt8) (k : Nat) (h : k < l.length) : numOf (l.take (k + 1)) = numOf (l.take k) * 256 + l[k].toNat := by
  rw [List.take_succ_eq_append_getElem h, numOf_snoc]
theorem foldl_lt : ∀ (l : List UInt8) (n k : Nat), n < 256 ^ k → l.foldl (fun n c => n * 256 + c.toNat) n < 256 ^ (k + l.length)
  | [], _, _, h => h
  | c :: l, n, k, h => by
    have hc := c.toNat_lt
    have := foldl_lt l (n * 256 + c.toNat) (k + 1) (by rw [Nat.pow_succ]; omega)
    rw [List.length_cons, show k + (l.length + 1) = k + 1 + l.length by omega]
    exact this
theorem numOf_lt (l : List UInt8) (h : l.length ≤ 7) : numOf l < 72057594037927936 := by
  have h1 := foldl_lt l 0 0 (by simp)
  have h2 : 256 ^ (0 + l.length) ≤ 256 ^ 7 := Nat.pow_le_pow_right (by omega) (by omega)
  exact Nat.lt_of_lt_of_le h1 h2

def readOf (l : List UInt8) : Nat × Bool := if l.length ≤ 8 ∧ l.head? ≠ some 0 then (numOf l, true) else (0, false)

set_option maxHeartbeats 400000 in
theorem read_any (A : Option Addr) (l : List UInt8) (cap B : Nat) (w : World) (h : RB w B A l cap) :
    Calls Tryd.prog 61 #[.slice A l.length cap] w fun e w' => e = .returned (.tuple #[.int .u64 (readOf l).1, .bool (readOf l).2]) ∧ w = w' := by
  have hl : l.length ≤ maxLen := Nat.le_trans h.1 h.2.1
  unfold maxLen at hl
  by_cases h8 : 8 < l.length
  · have hr : readOf l = (0, false) := by simp [readOf]; omega
    rw [hr]
    clear h hr
    go_enter Tryd.func61, Tryd.ntmps61
    go_wp2
    go_ret2
    exact ⟨rfl, rfl⟩
  by_cases h0 : l.length = 0
  · have hn : l = [] := List.eq_nil_of_length_eq_zero h0
    subst hn
    have hr : readOf [] = (0, true) := rfl
    rw [hr]
    clear h hr h8 h0
    go_enter Tryd.func61, Tryd.ntmps61
    go_wp2
    refine wp_loop_rounds 1 ?_
    rw [rounds_succ]
    go_wp2
    go_ret2
    exact ⟨rfl, rfl⟩
  obtain ⟨b, off, rfl, hb, hc⟩ := h.open_ (by omega)
  clear h
  have hp : (0 : Int) < (l.length : Int) := by omega
  have hpn : 0 < l.length := by omega
  have hc0 := hc 0 hpn
  rw [Nat.add_zero] at hc0
  by_cases hz : l[0] = 0
  · have hr : readOf l = (0, false) := by
      cases l with
      | nil => simp at hpn
      | cons x l => simp at hz; simp [readOf, hz]
    rw [hr]
    rw [hz] at hc0
    simp at hc0
    clear hr hz hc
    go_enter Tryd.func61, Tryd.ntmps61
    go_wp2
    go_ret2
    exact ⟨rfl, rfl⟩
  · have hr : readOf l = (numOf l, true) := by
      cases l with
      | nil => simp at hpn
      | cons x l => simp at hz h8; simp [readOf, hz]; omega
    rw [hr]
    have hne : ((l[0].toNat : Int) == 0) = false := by
      rw [beq_eq_false_iff_ne]
      intro he
      exact hz (UInt8.toNat_inj.1 (by simpa using he))
    have HC := Lib.hid hc
    have h8b : decide (8 < (l.length : Int)) = false := by simp; omega
    clear hr hz hc
    go_enter Tryd.func61, Tryd.ntmps61
    go_wp2
    go_loop [4, 23] (fun n i => ∃ k : Nat, k ≤ l.length ∧ i = .int .i64 k ∧ n = .int .u64 (numOf (l.take k))) (fun _ i => l.length - (intOf i).toNat)
    case atStart => exact ⟨0, Nat.zero_le _, rfl, rfl⟩
    case round =>
      obtain ⟨k, hk, rfl, rfl⟩ := hrel
      by_cases hlt : k < l.length
      · have hck := HC.out k hlt
        have hn := numOf_lt (l.take k) (by simp; omega)
        have hC := l[k].toNat_lt
        have HT := Lib.hid (numOf_take l k hlt)
        generalize numOf (l.take k) = N at *
        generalize l[k].toNat = C at *
        have hw : IntKind.u64.wrap (C : Int) = C := by rw [IntKind.wrap_u64]; omega
        have ho := or_byte64 ((N : Int) * 256) C (by omega) (by omega) (by omega) (by omega) (by omega)
        go_wp2
        go_round
        case rel => exact ⟨k + 1, by omega, by go_num, by rw [HT.out]; go_num⟩
        case measure => simp [intOf]; omega
      · go_wp2
        go_ret2
        exact ⟨by rw [List.take_of_length_le (by omega)]; rfl, rfl⟩

end Go.Proofs.YtaanhancjmigdaaDoor
