/- What strings.SplitSeq gives: the walk of the function that it makes, whose state lies in a cell of its own. -/
import Derived.RangeFuncNested
import Derived.RangeFuncBound
import Derived.RangeFuncCalls
import Derived.RangeFuncLeaves
import Derived.Shelf.Abstract
import Derived.Shelf.RegionOpen
import Derived.OwnWalkIn
import Derived.TacticsInMore
import Derived.LoopNIn
import Derived.LoopIn
import Derived.Test.YtmbmahpklkcioaaDoorTrb
namespace Go.Proofs.YtmbmahpklkcioaaDoor
open Go.RowKit Go.Shelf
attribute [local go_sem] Oper.semAt_some

def pieces1 (c : UInt8) : List UInt8 → List (List UInt8)
  | [] => [[]]
  | b :: l => if b = c then [] :: pieces1 c l else match pieces1 c l with
    | [] => [[b]]
    | p :: ps => (b :: p) :: ps
theorem pieces1_none (c : UInt8) : ∀ l : List UInt8, c ∉ l → pieces1 c l = [l]
  | [], _ => rfl
  | x :: l, h => by
    have h1 : ¬ x = c := fun e => h (by simp [e])
    rw [pieces1, if_neg h1, pieces1_none c l (fun e => h (by simp [e]))]
theorem pieces1_at (c : UInt8) (b : List UInt8) : ∀ a : List UInt8, c ∉ a → pieces1 c (a ++ c :: b) = a :: pieces1 c b
  | [], _ => by rw [List.nil_append, pieces1, if_pos rfl]
  | x :: a, h => by
    have h1 : ¬ x = c := fun e => h (by simp [e])
    rw [List.cons_append, pieces1, if_neg h1, pieces1_at c b a (fun e => h (by simp [e]))]
/-- Where a byte is found, and what lies before and behind it. -/
theorem index_two (l : List UInt8) (c : UInt8) : (Lib.indexByte l c = -1 ∧ c ∉ l) ∨ ∃ k : Nat, Lib.indexByte l c = (k : Int) ∧ k < l.length ∧ c ∉ l.take k ∧ l = l.take k ++ c :: l.drop (k + 1) := by
  induction l with
  | nil => exact .inl ⟨rfl, by simp⟩
  | cons b l ih =>
    by_cases hb : b = c
    · subst hb
      exact .inr ⟨0, by simp [Lib.indexByte], by simp, by simp, by simp⟩
    · have hbq : (b == c) = false := beq_eq_false_iff_ne.2 hb
      rcases ih with ⟨h, hn⟩ | ⟨k, h, hk, hn, he⟩
      · refine .inl ⟨by simp [Lib.indexByte, hbq, h], ?_⟩
        intro hm
        rcases List.mem_cons.1 hm with e | e
        · exact hb e.symm
        · exact hn e
      · refine .inr ⟨k + 1, ?_, by simp; omega, ?_, ?_⟩
        · have : ¬ (k : Int) = -1 := by omega
          simp [Lib.indexByte, hbq, h, this]
        · rw [List.take_succ_cons]
          intro hm
          rcases List.mem_cons.1 hm with e | e
          · exact hb e.symm
          · exact hn e
        · rw [List.take_succ_cons, List.drop_succ_cons, List.cons_append, ← he]

/-- The three cells that the function has captured: '/' , what is left, and that nothing of '/' is kept. -/
structure Cap (W : World) (p b q : Nat) (s : ByteArray) : Prop where
  sep : W.heap[p]? = some (.cells #[.string ⟨#[47]⟩] 9 (0, 0))
  left : W.heap[b]? = some (.cells #[.string s] 9 (0, 0))
  save : W.heap[q]? = some (.cells #[.int .i64 0] 3 (0, 0))
theorem cell_box {W : World} {B : Nat} {v : Value} {t : TypeId} (h : W.heap[B]? = some (.cells #[v] t (0, 0))) : W.cell? ⟨B, 0, none⟩ = some v ∧ W.frozen? ⟨B, 0, none⟩ = false := by
  constructor <;> simp [World.cell?, World.frozen?, h]
theorem heap_setCell1 {W : World} {B : Nat} {v u : Value} {t : TypeId} (h : W.heap[B]? = some (.cells #[v] t (0, 0))) : (W.setCell ⟨B, 0, none⟩ u).heap[B]? = some (.cells #[u] t (0, 0)) := by
  obtain ⟨hlt, hk⟩ := Array.getElem?_eq_some_iff.1 h
  show (W.heap.modify B _)[B]? = _
  rw [Array.getElem?_eq_getElem (by rw [Array.size_modify]; exact hlt), Array.getElem_modify_self, hk]
  simp
theorem Cap.set {W : World} {p b q : Nat} {s : ByteArray} (h : Cap W p b q s) (hp : p ≠ b) (hq : q ≠ b) (u : ByteArray) : Cap (W.setCell ⟨b, 0, none⟩ (.string u)) p b q u :=
  ⟨(Below.heap_setCell W ⟨b, 0, none⟩ _ p hp).trans h.sep, heap_setCell1 h.left, (Below.heap_setCell W ⟨b, 0, none⟩ _ q hq).trans h.save⟩

set_option maxRecDepth 100000 in
set_option maxHeartbeats 2000000 in
theorem seq1_any (n l p b q : Nat) (s0 : ByteArray) (hpb : p ≠ b) (hqb : q ≠ b) (hs0 : s0.size ≤ 1000000) (hn : 1 ≤ n) (J Jx : List (List UInt8) → World → Prop)
    (hJ : ∀ pre W u, J pre W → J pre (W.setCell ⟨b, 0, none⟩ (.string u)))
    (hY : ∀ pre (x : ByteArray) W s, J pre W → Cap W p b q s → x.size ≤ 1000000 → YieldAt Fence.wide (n - 1) Tryd.prog l #[.string x] W fun e W' =>
      (e = .returned (.bool true) ∧ J (pre ++ [x.data.toList]) W' ∧ Cap W' p b q s) ∨ (e = .returned (.bool false) ∧ Jx (pre ++ [x.data.toList]) W'))
    (W : World) (hC : Cap W p b q s0) (h0 : J [] W) :
    CallsIn Fence.wide n Tryd.prog 57 #[.func (.yield l) #[] #[], .pointer (some ⟨p, 0, none⟩), .pointer (some ⟨b, 0, none⟩), .pointer (some ⟨q, 0, none⟩)] W fun e W' => (∃ v, e = .returned v) ∧
      (J (pieces1 47 s0.data.toList) W' ∨ (∃ pre, pre <+: pieces1 47 s0.data.toList ∧ Jx pre W')) := by
  refine callsIn_of_wp Tryd.func57 rfl trivial ?_ rfl
  simp only [Tryd.ntmps57, List.size_toArray, List.length_cons, List.length_nil, Nat.reduceAdd, Nat.reduceSub, Array.replicate_succ, Array.replicate_zero, List.push_toArray, List.append_toArray, List.nil_append, List.cons_append]
  have c1 := cell_box hC.sep
  have c2 := cell_box hC.left
  have c3 := cell_box hC.save
  have hz : ((ByteArray.mk #[47]).size : Int) = 1 := rfl
  gi_wp2
  gi_loopw [7] (fun _ wr => ∃ (pre : List (List UInt8)) (s : ByteArray), pieces1 47 s0.data.toList = pre ++ pieces1 47 s.data.toList ∧ s.size ≤ 1000000 ∧ Cap wr p b q s ∧ J pre wr)
    (fun _ wr => match wr.cell? ⟨b, 0, none⟩ with | some (.string s) => s.size | _ => 0)
  case atStart =>
    exact ⟨[], s0, rfl, hs0, hC, h0⟩
  case round =>
    obtain ⟨pre, s, hp, hs, hC, hJs⟩ := hrel
    clear c1 c2 c3
    have c1 := cell_box hC.sep
    have c2 := cell_box hC.left
    have c3 := cell_box hC.save
    rcases index_two s.data.toList 47 with ⟨hi, hn⟩ | ⟨k, hi, hk, hn, he⟩
    · have HI := Lib.hid hi
      have HP := Lib.hid (show pieces1 47 s0.data.toList = pre ++ [s.data.toList] by rw [hp, pieces1_none _ _ hn])
      have hY1 := hY pre s wr s hJs hC hs
      obtain ⟨fn, tmps, assign, body, hy, hR⟩ := hY1
      clear hi hn hp
      gi_wp2_with (refine ⟨trivial, ?_⟩; gi_at_call 46; refine (callsIn_wide.2 (sh_strings_Index_one s 47 _)).mono ?_; rintro e w1 ⟨rfl, rfl⟩; rw [HI.out])
      refine hR.mono ?_
      rintro e W3 (⟨rfl, hJ3, hC3⟩ | ⟨rfl, hJ3⟩)
      · gi_wp2
        go_end0
        exact ⟨⟨_, rfl⟩, .inl (by rw [HP.out]; exact hJ3)⟩
      · gi_wp2
        go_end0
        exact ⟨⟨_, rfl⟩, .inr ⟨_, by rw [HP.out]; exact List.prefix_refl _, hJ3⟩⟩
    · have hsz : s.size = s.data.toList.length := rfl
      have hx1 : (s.extract 0 k).data.toList = s.data.toList.take k := by rw [ext_data s _ rfl, List.drop_zero]
      have hx2 : (s.extract (k + 1) s.size).data.toList = s.data.toList.drop (k + 1) := by rw [ext_data s _ rfl, List.take_of_length_le (by omega)]
      have HI := Lib.hid hi
      have HP := Lib.hid (show pieces1 47 s0.data.toList = (pre ++ [(s.extract 0 k).data.toList]) ++ pieces1 47 (s.extract (k + 1) s.size).data.toList by
        rw [hp, hx1, hx2, List.append_assoc, List.singleton_append, ← pieces1_at 47 _ _ hn, ← he])
      have HS := Lib.hid (show (s.extract (k + 1) s.size).size ≤ 1000000 by rw [ByteArray.size_extract]; omega)
      have HM := Lib.hid (show (s.extract (k + 1) s.size).size < s.size by rw [ByteArray.size_extract]; omega)
      have hY1 := hY pre (s.extract 0 k) wr s hJs hC (by rw [ByteArray.size_extract]; omega)
      obtain ⟨fn, tmps, assign, body, hy, hR⟩ := hY1
      have hk1 : (k : Int) + 1 ≤ (s.size : Int) := by omega
      have hk0 : ¬ (k : Int) < 0 := by omega
      have hlim : (s.size : Int) ≤ 1000000 := by omega
      clear hi hn hp he hx1 hx2 hsz hk
      gi_wp2_with (refine ⟨trivial, ?_⟩; gi_at_call 46; refine (callsIn_wide.2 (sh_strings_Index_one s 47 _)).mono ?_; rintro e w1 ⟨rfl, rfl⟩; rw [HI.out])
      refine hR.mono ?_
      rintro e W3 (⟨rfl, hJ3, hC3⟩ | ⟨rfl, hJ3⟩)
      · have d1 := cell_box hC3.sep
        have d2 := cell_box hC3.left
        have d3 := cell_box hC3.save
        gi_wp2
        go_roundw
        case rel => exact ⟨_, _, HP.out, HS.out, hC3.set hpb hqb _, hJ _ _ _ hJ3⟩
        case measure => rw [(cell_box (heap_setCell1 hC3.left)).1, c2.1]; exact HM.out
      · gi_wp2
        refine bodyPost_ret (results_none rfl _ _ _) rfl ?_
        exact ⟨⟨_, rfl⟩, .inr ⟨_, by rw [HP.out]; exact List.prefix_append _ _, hJ3⟩⟩
end Go.Proofs.YtmbmahpklkcioaaDoor
