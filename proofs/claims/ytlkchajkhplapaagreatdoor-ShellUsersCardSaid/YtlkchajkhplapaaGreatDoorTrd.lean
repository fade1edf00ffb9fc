/- The small functions of tree: names, the last part of a path, its parent. -/
import Derived.Test.YtlkchajkhplapaaGreatDoorSlr
import Derived.WalkKit
import Derived.RangeFuncNested
import Derived.RangeFuncBound
import Derived.RangeFuncCalls
import Derived.RangeFuncLeaves
import Derived.Shelf.Abstract
import Derived.Shelf.RegionOpen
import Derived.OwnWalkIn
import Derived.TacticsInMore
import Derived.LoopNIn
import Derived.LoopIn
namespace Go.Proofs.YtlkchajkhplapaaGreatDoor
open Go.RowKit

theorem str_ne {a b : ByteArray} (h : a ≠ b) : (a.toList == b.toList) = false := by
  rw [beq_eq_false_iff_ne, ByteArray.toList_eq, ByteArray.toList_eq]
  intro e
  exact h (ByteArray.ext (Array.ext' e))
theorem all_take (l : List UInt8) (f : UInt8 → Bool) (k : Nat) (hk : k < l.length) : (l.take (k + 1)).all f = ((l.take k).all f && f l[k]) := by
  rw [List.take_succ_eq_append_getElem hk, List.all_append]
  simp
def nb (c : UInt8) : Bool := byteOk c.toNat
theorem bytes_of {s : ByteArray} {l : List UInt8} (h : s.data.toList = l) : s = ⟨l.toArray⟩ := by
  apply ByteArray.ext
  rw [← h]
set_option maxHeartbeats 1000000 in
theorem rightName_any (s : ByteArray) (l : List UInt8) (hl : s.data.toList = l) (w : World) (hm : l.length ≤ 1000000) :
    Calls Tryz.prog 90 #[.string s] w fun e w' => e = .returned (.bool (nameOk l)) ∧ w' = w := by
  have hsz : s.size = l.length := by rw [← hl]; rfl
  by_cases h1 : l.length < 1
  · have hp : nameOk l = false := by rw [nameOk, decide_eq_false (by omega)]; rfl
    have h1i : (s.size : Int) < 1 := by omega
    rw [hp]
    clear hl
    go_enter Tryz.func90, Tryz.ntmps90
    go_wp2
    go_ret
    exact ⟨rfl, rfl⟩
  by_cases h2 : 12 < l.length
  · have hp : nameOk l = false := by rw [nameOk, decide_eq_false (by omega)]; rfl
    have h1i : ¬ (s.size : Int) < 1 := by omega
    have h2i : (12 : Int) < (s.size : Int) := by omega
    rw [hp]
    clear hl
    go_enter Tryz.func90, Tryz.ntmps90
    go_wp2
    go_ret
    exact ⟨rfl, rfl⟩
  by_cases h3 : l = [46]
  · have hs := bytes_of hl
    subst h3
    subst hs
    have hp : nameOk [46] = false := by decide
    rw [hp]
    clear hl hsz
    go_enter Tryz.func90, Tryz.ntmps90
    go_wp2
    go_ret
    exact ⟨rfl, rfl⟩
  by_cases h4 : l = [46, 46]
  · have hs := bytes_of hl
    subst h4
    subst hs
    have hp : nameOk [46, 46] = false := by decide
    rw [hp]
    clear hl hsz
    go_enter Tryz.func90, Tryz.ntmps90
    go_wp2
    go_ret
    exact ⟨rfl, rfl⟩
  have h1i : ¬ (s.size : Int) < 1 := by omega
  have h2i : ¬ (12 : Int) < (s.size : Int) := by omega
  have hp : nameOk l = l.all nb := by
    rw [nameOk, decide_eq_true (by omega), beq_eq_false_iff_ne.2 h3, beq_eq_false_iff_ne.2 h4]
    rfl
  rw [hp]
  have n3 := str_ne (a := s) (b := ⟨#[46]⟩) (fun e => h3 (by rw [← hl, e]))
  have n4 := str_ne (a := s) (b := ⟨#[46, 46]⟩) (fun e => h4 (by rw [← hl, e]))
  have n3' : (s.toList == [46]) = false := by rw [show ([46] : List UInt8) = (⟨#[46]⟩ : ByteArray).toList from by rw [ByteArray.toList_eq]]; exact n3
  have n4' : (s.toList == [46, 46]) = false := by rw [show ([46, 46] : List UInt8) = (⟨#[46, 46]⟩ : ByteArray).toList from by rw [ByteArray.toList_eq]]; exact n4
  have HL := Lib.hid hl
  have HZ := Lib.hid hsz
  clear h3 h4 hp n3 n4 hsz h1 h2
  go_enter Tryz.func90, Tryz.ntmps90
  go_wp2
  go_loop [22] (fun i => ∃ k : Nat, i = .int .i64 k ∧ k ≤ l.length ∧ (l.take k).all nb = true) (fun i => l.length - (intOf i).toNat)
  case atStart => exact ⟨0, rfl, by omega, by simp⟩
  case round =>
    obtain ⟨k, rfl, hk, ha⟩ := hrel
    by_cases hlt : k < l.length
    · have hki : (k : Int) < (s.size : Int) := by have := HZ.out; omega
      have hx := all_take l nb k hlt
      have hg : s[k]'(by have := HZ.out; omega) = l[k] := by subst hl; simp [ByteArray.getElem_eq_getElem_data]
      have hu : l[k].toNat < 256 := l[k].toNat_lt
      have HU := Lib.hid hu
      cases hb : nb l[k] with
      | false =>
        have hf : l.all nb = false := by
          rw [List.all_eq_false]
          exact ⟨_, List.getElem_mem hlt, by simp [hb]⟩
        have HF := Lib.hid hf
        have HB := Lib.hid (show byteOk l[k].toNat = false from hb)
        clear ha hx hf hb hu
        go_wp2_with (go_at_call 111; refine (rightByte_any _ _ HU.out).mono ?_; rintro e w1 ⟨rfl, rfl⟩; rw [HB.out])
        go_ret
        exact ⟨by rw [HF.out]; rfl, rfl⟩
      | true =>
        have HX := Lib.hid (show (l.take (k + 1)).all nb = true by rw [hx, ha, hb]; rfl)
        have HB := Lib.hid (show byteOk l[k].toNat = true from hb)
        clear ha hx hb hu
        go_wp2_with (go_at_call 111; refine (rightByte_any _ _ HU.out).mono ?_; rintro e w1 ⟨rfl, rfl⟩; rw [HB.out])
        go_round
        case rel => exact ⟨k + 1, by go_num, by omega, HX.out⟩
        case measure => simp [intOf]; omega
    · have hki : ¬ (k : Int) < (s.size : Int) := by have := HZ.out; omega
      have hf : l.all nb = true := by rw [List.take_of_length_le (by omega)] at ha; exact ha
      have HF := Lib.hid hf
      clear hf ha
      go_wp2
      go_ret
      exact ⟨by rw [HF.out]; rfl, rfl⟩

theorem ext_data (s : ByteArray) (l : List UInt8) (hl : s.data.toList = l) (a b : Nat) : (s.extract a b).data.toList = (l.take b).drop a := by
  subst hl
  simp [ByteArray.data_extract, Array.toList_extract, List.extract, List.drop_take]
theorem last_idx {s : ByteArray} {a b : List UInt8} {c : UInt8} (h : s.data.toList = a ++ c :: b) (hb : c ∉ b) : Go.Lib.lastIndexByte s (c.toNat : Int) = (a.length : Int) := by
  have hz : s.size = a.length + 1 + b.length := by
    have : s.size = s.data.toList.length := rfl
    rw [this, h, List.length_append, List.length_cons]; omega
  have at_ (j : Nat) (hj : j < s.size) : s.data[j]! = (a ++ c :: b)[j]'(by rw [← h]; exact hj) := by
    have hj' : j < s.data.size := hj
    rw [getElem!_pos s.data j hj']
    simp only [← h, Array.getElem_toList]
  have hat : s.data[a.length]! = c := by
    rw [at_ a.length (by omega), List.getElem_append_right (Nat.le_refl _)]
    simp
  rcases Go.Lib.lastIndexByte_spec s (c.toNat : Int) with ⟨_, hn⟩ | ⟨i, hi, e, hc, hn⟩
  · exact absurd (by rw [hat]) (hn a.length (by omega))
  · rw [e]
    rcases Nat.lt_trichotomy i a.length with h1 | h1 | h1
    · exact absurd (by rw [hat]) (hn a.length h1 (by omega))
    · rw [h1]
    · exfalso
      have hx : s.data[i]! = c := by
        have : (s.data[i]!).toNat = c.toNat := by omega
        exact UInt8.toNat.inj this
      rw [at_ i hi, List.getElem_append_right (by omega)] at hx
      obtain ⟨d, hd⟩ : ∃ d, i - a.length = d + 1 := ⟨i - a.length - 1, by omega⟩
      simp only [hd, List.getElem_cons_succ] at hx
      exact hb (hx ▸ List.getElem_mem _)
theorem clone_any (s : ByteArray) (w : World) (hs : s.size ≤ 1000000) : Calls Tryz.prog 59 #[.string s] w fun e w' => e = .returned (.string s) ∧ Below w.heap.size w w' := by
  go_enter Tryz.func59, Tryz.ntmps59
  go_wp2_with (go_at_call 87; refine (sh_stringslite_Clone s _ (by omega)).mono ?_; rintro e w1 ⟨rfl, hb1⟩)
  go_ret
  exact ⟨rfl, hb1⟩
theorem lastIndex_any (s : ByteArray) (a b : List UInt8) (h : s.data.toList = a ++ 47 :: b) (hb : (47 : UInt8) ∉ b) (hs : s.size ≤ 1000000) (w : World) :
    Calls Tryz.prog 104 #[.string s, .string ⟨#[47]⟩] w fun e w' => e = .returned (.int .i64 (a.length : Int)) ∧ w' = w := by
  refine (sh_strings_LastIndex_one s ⟨#[47]⟩ rfl (by omega) w).mono ?_
  rintro e w' ⟨rfl, rfl⟩
  have := last_idx (c := 47) h hb
  exact ⟨congrArg (fun x => Ending.returned (.int .i64 x)) this, rfl⟩
set_option maxHeartbeats 1000000 in
theorem last_any (s : ByteArray) (a b : List UInt8) (h : s.data.toList = a ++ 47 :: b) (hb : (47 : UInt8) ∉ b) (hs : s.size ≤ 1000000) (w : World) :
    Calls Tryz.prog 85 #[.string s] w fun e w' => ∃ r : ByteArray, e = .returned (.string r) ∧ r.data.toList = b ∧ Below w.heap.size w w' := by
  have hz : s.size = a.length + 1 + b.length := by
    have : s.size = s.data.toList.length := rfl
    rw [this, h, List.length_append, List.length_cons]; omega
  have hr : (s.extract (a.length + 1) s.size).data.toList = b := by
    rw [ext_data s _ h, List.take_of_length_le (by simp; omega), List.drop_append, List.drop_eq_nil_of_le (by omega)]
    simp
  have HR := Lib.hid hr
  have HS := Lib.hid hs
  have LI := Lib.hid (fun w => lastIndex_any s a b h hb hs w)
  obtain ⟨n, hn⟩ : ∃ n, n = a.length := ⟨_, rfl⟩
  rw [← hn] at HR LI hz
  have hi : (n : Int) + 1 ≤ (s.size : Int) := by omega
  have hlim : (s.size : Int) ≤ 1000000 := by omega
  have HE := Lib.hid (show (s.extract (n + 1) s.size).size ≤ 1000000 by rw [ByteArray.size_extract]; omega)
  clear h hb hr hs hz hn
  go_enter Tryz.func85, Tryz.ntmps85
  go_wp2_with (first
    | (go_at_call 104; refine (LI.out _).mono ?_; rintro e w1 ⟨rfl, rfl⟩)
    | (go_at_call 59; refine (clone_any _ _ HE.out).mono ?_; rintro e w1 ⟨rfl, hb1⟩))
  go_ret
  exact ⟨_, rfl, HR.out, hb1⟩
set_option maxHeartbeats 1000000 in
theorem parent_any (s : ByteArray) (a b : List UInt8) (h : s.data.toList = a ++ 47 :: b) (hb : (47 : UInt8) ∉ b) (hs : s.size ≤ 1000000) (w : World) :
    Calls Tryz.prog 84 #[.string s] w fun e w' => ∃ r : ByteArray, e = .returned (.string r) ∧ r.data.toList = (a ++ 47 :: b).take (max a.length 1) ∧ w' = w := by
  have hz : s.size = a.length + 1 + b.length := by
    have : s.size = s.data.toList.length := rfl
    rw [this, h, List.length_append, List.length_cons]; omega
  have hr : (s.extract 0 (max a.length 1)).data.toList = (a ++ 47 :: b).take (max a.length 1) := by
    rw [ext_data s _ h, List.drop_zero]
  rw [← hr]
  have LI := Lib.hid (fun w => lastIndex_any s a b h hb hs w)
  obtain ⟨n, hn⟩ : ∃ n, n = a.length := ⟨_, rfl⟩
  rw [← hn] at LI hz
  rw [← hn]
  have hi : (n : Int) + 1 ≤ (s.size : Int) := by omega
  have hlim : (s.size : Int) ≤ 1000000 := by omega
  clear h hb hr hs hz hn
  go_enter Tryz.func84, Tryz.ntmps84
  go_wp2_with (go_at_call 104; refine (LI.out _).mono ?_; rintro e w1 ⟨rfl, rfl⟩)
  go_ret
  exact ⟨_, rfl, by rw [show (max (n : Int) 1).toNat = max n 1 by omega], rfl⟩
end Go.Proofs.YtlkchajkhplapaaGreatDoor
namespace Go.Proofs.YtlkchajkhplapaaGreatDoor
open Go.RowKit Go.Shelf
attribute [local go_sem] Oper.semAt_some

def pieces1 (c : UInt8) : List UInt8 → List (List UInt8)
  | [] => [[]]
  | b :: l => if b = c then [] :: pieces1 c l else match pieces1 c l with
    | [] => [[b]]
    | p :: ps => (b :: p) :: ps
theorem pieces1_none (c : UInt8) : ∀ l : List UInt8, c ∉ l → pieces1 c l = [l]
  | [], _ => rfl
  | x :: l, h => by
    have h1 : ¬ x = c := fun e => h (by simp [e])
    rw [pieces1, if_neg h1, pieces1_none c l (fun e => h (by simp [e]))]
theorem pieces1_at (c : UInt8) (b : List UInt8) : ∀ a : List UInt8, c ∉ a → pieces1 c (a ++ c :: b) = a :: pieces1 c b
  | [], _ => by rw [List.nil_append, pieces1, if_pos rfl]
  | x :: a, h => by
    have h1 : ¬ x = c := fun e => h (by simp [e])
    rw [List.cons_append, pieces1, if_neg h1, pieces1_at c b a (fun e => h (by simp [e]))]
/-- Where a byte is found, and what lies before and behind it. -/
theorem index_two (l : List UInt8) (c : UInt8) : (Lib.indexByte l c = -1 ∧ c ∉ l) ∨ ∃ k : Nat, Lib.indexByte l c = (k : Int) ∧ k < l.length ∧ c ∉ l.take k ∧ l = l.take k ++ c :: l.drop (k + 1) := by
  induction l with
  | nil => exact .inl ⟨rfl, by simp⟩
  | cons b l ih =>
    by_cases hb : b = c
    · subst hb
      exact .inr ⟨0, by simp [Lib.indexByte], by simp, by simp, by simp⟩
    · have hbq : (b == c) = false := beq_eq_false_iff_ne.2 hb
      rcases ih with ⟨h, hn⟩ | ⟨k, h, hk, hn, he⟩
      · refine .inl ⟨by simp [Lib.indexByte, hbq, h], ?_⟩
        intro hm
        rcases List.mem_cons.1 hm with e | e
        · exact hb e.symm
        · exact hn e
      · refine .inr ⟨k + 1, ?_, by simp; omega, ?_, ?_⟩
        · have : ¬ (k : Int) = -1 := by omega
          simp [Lib.indexByte, hbq, h, this]
        · rw [List.take_succ_cons]
          intro hm
          rcases List.mem_cons.1 hm with e | e
          · exact hb e.symm
          · exact hn e
        · rw [List.take_succ_cons, List.drop_succ_cons, List.cons_append, ← he]

/-- The three cells that the function has captured: '/' , what is left, and that nothing of '/' is kept. -/
structure Cap (W : World) (p b q : Nat) (s : ByteArray) : Prop where
  sep : W.heap[p]? = some (.cells #[.string ⟨#[47]⟩] 9 (0, 0))
  left : W.heap[b]? = some (.cells #[.string s] 9 (0, 0))
  save : W.heap[q]? = some (.cells #[.int .i64 0] 3 (0, 0))
theorem cell_box {W : World} {B : Nat} {v : Value} {t : TypeId} (h : W.heap[B]? = some (.cells #[v] t (0, 0))) : W.cell? ⟨B, 0, none⟩ = some v ∧ W.frozen? ⟨B, 0, none⟩ = false := by
  constructor <;> simp [World.cell?, World.frozen?, h]
theorem heap_setCell1 {W : World} {B : Nat} {v u : Value} {t : TypeId} (h : W.heap[B]? = some (.cells #[v] t (0, 0))) : (W.setCell ⟨B, 0, none⟩ u).heap[B]? = some (.cells #[u] t (0, 0)) := by
  obtain ⟨hlt, hk⟩ := Array.getElem?_eq_some_iff.1 h
  show (W.heap.modify B _)[B]? = _
  rw [Array.getElem?_eq_getElem (by rw [Array.size_modify]; exact hlt), Array.getElem_modify_self, hk]
  simp
theorem Cap.set {W : World} {p b q : Nat} {s : ByteArray} (h : Cap W p b q s) (hp : p ≠ b) (hq : q ≠ b) (u : ByteArray) : Cap (W.setCell ⟨b, 0, none⟩ (.string u)) p b q u :=
  ⟨(Below.heap_setCell W ⟨b, 0, none⟩ _ p hp).trans h.sep, heap_setCell1 h.left, (Below.heap_setCell W ⟨b, 0, none⟩ _ q hq).trans h.save⟩

set_option maxRecDepth 100000 in
set_option maxHeartbeats 2000000 in
theorem seq1_any (n l p b q : Nat) (s0 : ByteArray) (hpb : p ≠ b) (hqb : q ≠ b) (hs0 : s0.size ≤ 1000000) (hn : 1 ≤ n) (J Jx : List (List UInt8) → World → Prop)
    (hJ : ∀ pre W u, J pre W → J pre (W.setCell ⟨b, 0, none⟩ (.string u)))
    (hY : ∀ pre (x : ByteArray) W s, J pre W → Cap W p b q s → x.size ≤ 1000000 → YieldAt Fence.wide (n - 1) Tryz.prog l #[.string x] W fun e W' =>
      (e = .returned (.bool true) ∧ J (pre ++ [x.data.toList]) W' ∧ Cap W' p b q s) ∨ (e = .returned (.bool false) ∧ Jx (pre ++ [x.data.toList]) W'))
    (W : World) (hC : Cap W p b q s0) (h0 : J [] W) :
    CallsIn Fence.wide n Tryz.prog 113 #[.func (.yield l) #[] #[], .pointer (some ⟨p, 0, none⟩), .pointer (some ⟨b, 0, none⟩), .pointer (some ⟨q, 0, none⟩)] W fun e W' => (∃ v, e = .returned v) ∧
      (J (pieces1 47 s0.data.toList) W' ∨ (∃ pre, pre <+: pieces1 47 s0.data.toList ∧ Jx pre W')) := by
  refine callsIn_of_wp Tryz.func113 rfl trivial ?_ rfl
  simp only [Tryz.ntmps113, List.size_toArray, List.length_cons, List.length_nil, Nat.reduceAdd, Nat.reduceSub, Array.replicate_succ, Array.replicate_zero, List.push_toArray, List.append_toArray, List.nil_append, List.cons_append]
  have c1 := cell_box hC.sep
  have c2 := cell_box hC.left
  have c3 := cell_box hC.save
  have hz : ((ByteArray.mk #[47]).size : Int) = 1 := rfl
  gi_wp2
  gi_loopw [7] (fun _ wr => ∃ (pre : List (List UInt8)) (s : ByteArray), pieces1 47 s0.data.toList = pre ++ pieces1 47 s.data.toList ∧ s.size ≤ 1000000 ∧ Cap wr p b q s ∧ J pre wr)
    (fun _ wr => match wr.cell? ⟨b, 0, none⟩ with | some (.string s) => s.size | _ => 0)
  case atStart =>
    exact ⟨[], s0, rfl, hs0, hC, h0⟩
  case round =>
    obtain ⟨pre, s, hp, hs, hC, hJs⟩ := hrel
    clear c1 c2 c3
    have c1 := cell_box hC.sep
    have c2 := cell_box hC.left
    have c3 := cell_box hC.save
    rcases index_two s.data.toList 47 with ⟨hi, hn⟩ | ⟨k, hi, hk, hn, he⟩
    · have HI := Lib.hid hi
      have HP := Lib.hid (show pieces1 47 s0.data.toList = pre ++ [s.data.toList] by rw [hp, pieces1_none _ _ hn])
      have hY1 := hY pre s wr s hJs hC hs
      obtain ⟨fn, tmps, assign, body, hy, hR⟩ := hY1
      clear hi hn hp
      gi_wp2_with (refine ⟨trivial, ?_⟩; gi_at_call 110; refine (callsIn_wide.2 (sh_strings_Index_one s 47 _)).mono ?_; rintro e w1 ⟨rfl, rfl⟩; rw [HI.out])
      refine hR.mono ?_
      rintro e W3 (⟨rfl, hJ3, hC3⟩ | ⟨rfl, hJ3⟩)
      · gi_wp2
        go_end0
        exact ⟨⟨_, rfl⟩, .inl (by rw [HP.out]; exact hJ3)⟩
      · gi_wp2
        go_end0
        exact ⟨⟨_, rfl⟩, .inr ⟨_, by rw [HP.out]; exact List.prefix_refl _, hJ3⟩⟩
    · have hsz : s.size = s.data.toList.length := rfl
      have hx1 : (s.extract 0 k).data.toList = s.data.toList.take k := by rw [ext_data s _ rfl, List.drop_zero]
      have hx2 : (s.extract (k + 1) s.size).data.toList = s.data.toList.drop (k + 1) := by rw [ext_data s _ rfl, List.take_of_length_le (by omega)]
      have HI := Lib.hid hi
      have HP := Lib.hid (show pieces1 47 s0.data.toList = (pre ++ [(s.extract 0 k).data.toList]) ++ pieces1 47 (s.extract (k + 1) s.size).data.toList by
        rw [hp, hx1, hx2, List.append_assoc, List.singleton_append, ← pieces1_at 47 _ _ hn, ← he])
      have HS := Lib.hid (show (s.extract (k + 1) s.size).size ≤ 1000000 by rw [ByteArray.size_extract]; omega)
      have HM := Lib.hid (show (s.extract (k + 1) s.size).size < s.size by rw [ByteArray.size_extract]; omega)
      have hY1 := hY pre (s.extract 0 k) wr s hJs hC (by rw [ByteArray.size_extract]; omega)
      obtain ⟨fn, tmps, assign, body, hy, hR⟩ := hY1
      have hk1 : (k : Int) + 1 ≤ (s.size : Int) := by omega
      have hk0 : ¬ (k : Int) < 0 := by omega
      have hlim : (s.size : Int) ≤ 1000000 := by omega
      clear hi hn hp he hx1 hx2 hsz hk
      gi_wp2_with (refine ⟨trivial, ?_⟩; gi_at_call 110; refine (callsIn_wide.2 (sh_strings_Index_one s 47 _)).mono ?_; rintro e w1 ⟨rfl, rfl⟩; rw [HI.out])
      refine hR.mono ?_
      rintro e W3 (⟨rfl, hJ3, hC3⟩ | ⟨rfl, hJ3⟩)
      · have d1 := cell_box hC3.sep
        have d2 := cell_box hC3.left
        have d3 := cell_box hC3.save
        gi_wp2
        go_roundw
        case rel => exact ⟨_, _, HP.out, HS.out, hC3.set hpb hqb _, hJ _ _ _ hJ3⟩
        case measure => rw [(cell_box (heap_setCell1 hC3.left)).1, c2.1]; exact HM.out
      · gi_wp2
        refine bodyPost_ret (results_none rfl _ _ _) rfl ?_
        exact ⟨⟨_, rfl⟩, .inr ⟨_, by rw [HP.out]; exact List.prefix_append _ _, hJ3⟩⟩
end Go.Proofs.YtlkchajkhplapaaGreatDoor
namespace Go.Proofs.YtlkchajkhplapaaGreatDoor
open Go.RowKit Go.Shelf
attribute [local go_sem] Oper.semAt_some

def pathOk (l : List UInt8) : Bool := l == [47] || (l.head? == some 47 && decide (l.tail.count 47 < 6) && (pieces1 47 l.tail).all nameOk)
/-- What the calls of SplitSeq lay. -/
def capW (w : World) (s : ByteArray) : World := ((w.alloc (.cells #[.string s] 9)).alloc (.cells #[.string ⟨#[47]⟩] 9)).alloc (.cells #[.int .i64 0] 3)
theorem Cap.of_new (w : World) (s : ByteArray) : Cap (capW w s) (w.heap.size + 1) w.heap.size (w.heap.size + 2) s := by
  have h1 := World.alloc_heap_new w (.cells #[.string s] 9)
  have h2 := World.alloc_heap_new (w.alloc (.cells #[.string s] 9)) (.cells #[.string ⟨#[47]⟩] 9)
  have h3 := World.alloc_heap_new ((w.alloc (.cells #[.string s] 9)).alloc (.cells #[.string ⟨#[47]⟩] 9)) (.cells #[.int .i64 0] 3)
  rw [World.size_alloc] at h2
  rw [World.size_alloc, World.size_alloc] at h3
  exact ⟨(Below.heap_alloc _ _ _ (by rw [World.size_alloc, World.size_alloc]; omega)).trans h2,
    (Below.heap_alloc _ _ _ (by rw [World.size_alloc, World.size_alloc]; omega)).trans ((Below.heap_alloc _ _ _ (by rw [World.size_alloc]; omega)).trans h1), h3⟩
theorem splitSeq_any (w : World) (s : ByteArray) :
    Calls Tryz.prog 94 #[.string s, .string ⟨#[47]⟩, .int .i64 0] w fun e w' => e = .returned (.func (.func 113) #[] #[.pointer (some ⟨w.heap.size + 1, 0, none⟩), .pointer (some ⟨w.heap.size, 0, none⟩), .pointer (some ⟨w.heap.size + 2, 0, none⟩)]) ∧ w' = capW w s := by
  go_enter Tryz.func94, Tryz.ntmps94
  go_wp2
  go_ret
  exact ⟨rfl, rfl⟩
theorem SplitSeq_any (w : World) (s : ByteArray) :
    Calls Tryz.prog 75 #[.string s, .string ⟨#[47]⟩] w fun e w' => e = .returned (.func (.func 113) #[] #[.pointer (some ⟨w.heap.size + 1, 0, none⟩), .pointer (some ⟨w.heap.size, 0, none⟩), .pointer (some ⟨w.heap.size + 2, 0, none⟩)]) ∧ w' = capW w s := by
  go_enter Tryz.func75, Tryz.ntmps75
  go_wp2_with (go_at_call 94; refine (splitSeq_any _ _).mono ?_; rintro e w1 ⟨rfl, rfl⟩)
  go_ret
  exact ⟨rfl, rfl⟩

/-- The state of the loop: the answer's box is false; the record; nothing deferred. -/
structure St (B : Nat) (w0 : World) (R0 D l : Nat) (o : Loop) (W : World) : Prop where
  below : Below B w0 W
  res : W.heap[R0]? = some (.cells #[.bool false] 4 (0, 0))
  rc : W.heap[l]? = some (.loop o)
  df : W.heap[D]? = some (.deferred (some []))
theorem St.set {B R0 D l : Nat} {w0 W : World} {o : Loop} (h : St B w0 R0 D l o W) {b : Nat} (hb : B ≤ b) (h1 : R0 ≠ b) (h2 : D ≠ b) (h3 : l ≠ b) (u : Value) : St B w0 R0 D l o (W.setCell ⟨b, 0, none⟩ u) :=
  ⟨h.below.setCell (p := ⟨b, 0, none⟩) hb u, (Below.heap_setCell W ⟨b, 0, none⟩ _ R0 h1).trans h.res, (Below.heap_setCell W ⟨b, 0, none⟩ _ l h3).trans h.rc, (Below.heap_setCell W ⟨b, 0, none⟩ _ D h2).trans h.df⟩
theorem St.put {B R0 D l : Nat} {w0 W : World} {o : Loop} (h : St B w0 R0 D l o W) (hB : B ≤ l) (h1 : R0 ≠ l) (h2 : D ≠ l) (o' : Loop) : St B w0 R0 D l o' (W.putObj l (.loop o')) := by
  have hl := (Array.getElem?_eq_some_iff.1 h.rc).1
  exact ⟨h.below.grown (grownBy_putObj' W l _) (by have := h.below.size; omega) (fun k e => by cases e; exact hB), (World.putObj_heap_other h1).trans h.res, World.putObj_heap_same hl, (World.putObj_heap_other h2).trans h.df⟩
theorem Cap.put {W : World} {p b q : Nat} {s : ByteArray} (h : Cap W p b q s) {l : Nat} (h1 : p ≠ l) (h2 : b ≠ l) (h3 : q ≠ l) (o : Obj) : Cap (W.putObj l o) p b q s :=
  ⟨(World.putObj_heap_other h1).trans h.sep, (World.putObj_heap_other h2).trans h.left, (World.putObj_heap_other h3).trans h.save⟩
end Go.Proofs.YtlkchajkhplapaaGreatDoor
