/- The walk of TeloptAuths. -/
import Derived.Test.YtcfhpoigfkljpaaTnd
import Derived.Test.YtcfhpoigfkljpaaTli
import Derived.Test.YtcfhpoigfkljpaaTll
namespace Go.Proofs.Ytcfhpoigfkljpaa
open Go.ChangeShapes Go.WideShapes Go.RowKit
set_option linter.unusedVariables false

theorem auo {w w' : World} {x : Nat × Bool × List UInt8 × Bool} {e : Ending} (h : AuR w w' x e) {wh : Nat} {ys ok : Bool} {bo : List UInt8} (hx : x = (wh, ys, bo, ok)) {m : Nat} (hm : bo.length = m) {er : Int} (he : (if ok = true then 0 else 21) = er) :
    ∃ A c, e = .returned (.tuple #[.int .i64 (wh : Int), .bool ys, .slice A m c, .int .i64 er]) ∧ RB w' w'.heap.size A bo c ∧ w.grownBy w' none := by
  subst hx hm he
  obtain ⟨v, rfl, o, g⟩ := h
  obtain ⟨A, c, rfl, r, -⟩ := o.shape
  exact ⟨A, c, rfl, r, g⟩
theorem rao {w w' : World} {x : Nat × Bool × List UInt8 × Bool} {e : Ending} (h : RaR w w' x e) {wh : Nat} {ys ok : Bool} {bo : List UInt8} (hx : x = (wh, ys, bo, ok)) {m : Nat} (hm : bo.length = m) :
    ∃ A c, e = .returned (.tuple #[.int .i64 (wh : Int), .bool ys, .slice A m c, .bool ok]) ∧ RB w' w'.heap.size A bo c ∧ w.grownBy w' none := by
  subst hx hm
  obtain ⟨v, rfl, o, g⟩ := h
  obtain ⟨A, c, rfl, r, -⟩ := o.shape
  exact ⟨A, c, rfl, r, g⟩
theorem np2 {w w' : World} {l : List UInt8} {m : Nat} {e : Ending} (h : AbR w w' l e) (hm : l.length = m) : NpR w w' l m e := by
  obtain ⟨v, rfl, o, g⟩ := h
  obtain ⟨A, c, rfl, r, -⟩ := o.shape
  subst hm
  exact ⟨A, c, rfl, r, g⟩
theorem au_send : auF 3 37 [1, 2, 2] = (1, false, [], true) := by simp [auF]
theorem au_is (l : List UInt8) : auF 3 37 ([0, 2, 2, 0] ++ l) = (0, false, l, true) := by
  show auF 3 37 (0 :: 2 :: 2 :: 0 :: l) = _
  rw [au_4]
  simp
theorem au_no (l : List UInt8) : auF 3 37 ([2, 2, 2, 1] ++ l) = (2, false, l, true) := by
  show auF 3 37 (2 :: 2 :: 2 :: 1 :: l) = _
  rw [au_4]
  simp
theorem au_yes (l : List UInt8) : auF 3 37 ([2, 2, 2, 2] ++ l) = (2, true, l, true) := by
  show auF 3 37 (2 :: 2 :: 2 :: 2 :: l) = _
  rw [au_4]
  simp
theorem auF_len (k o : Int) (d : List UInt8) : (auF k o d).2.2.1.length ≤ d.length := by
  unfold auF
  repeat' split
  all_goals simp
set_option maxRecDepth 20000 in
set_option maxHeartbeats 4000000 in
theorem ta_long (w : World) (k v o : Int) (A A2 : Option Addr) (n cap m c2 : Nat) (acc : Bool) (hl : 4000 < n) :
    Calls Try.prog 6 #[.agg #[.int .i64 k, .int .i64 v, .int .i64 o, .slice A n cap], .bool acc, .slice A2 m c2] w fun e w' => e = .returned (.bool true) ∧ Below w.heap.size w w' := by
  have hni : (4000 : Int) < (n : Int) := by omega
  clear hl
  go_enter Try.func6, Try.ntmps6
  go_wp2_with (first
    | (go_at_call 8
       refine (speaks_any _).mono ?_
       rintro e w1 ⟨rfl, g1⟩
       have C1 := Lib.hid ((CB.new w 24 [.int .i64 k, .int .i64 v, .int .i64 o, .slice A n cap]).kept g1)
       have G1 := Lib.hid (grown_trans' (grown_alloc w (.cells #[.int .i64 k, .int .i64 v, .int .i64 o, .slice A n cap] 24) none) g1)
       have c3 : w1.cell? ⟨w.heap.size, 3, none⟩ = some (.slice A n cap) := C1.out.at_ rfl
       clear g1))
  go_ret
  exact ⟨rfl, below_of_none G1.out⟩
set_option maxRecDepth 20000 in
set_option maxHeartbeats 4000000 in
theorem ta_long2 (w : World) (k v o : Int) (A A2 : Option Addr) (n cap m c2 : Nat) (acc : Bool) (hl : ¬ 4000 < n) (hl2 : 4000 < m) :
    Calls Try.prog 6 #[.agg #[.int .i64 k, .int .i64 v, .int .i64 o, .slice A n cap], .bool acc, .slice A2 m c2] w fun e w' => e = .returned (.bool true) ∧ Below w.heap.size w w' := by
  have hni : ¬ (4000 : Int) < (n : Int) := by omega
  have hmi : (4000 : Int) < (m : Int) := by omega
  clear hl hl2
  go_enter Try.func6, Try.ntmps6
  go_wp2_with (first
    | (go_at_call 8
       refine (speaks_any _).mono ?_
       rintro e w1 ⟨rfl, g1⟩
       have C1 := Lib.hid ((CB.new w 24 [.int .i64 k, .int .i64 v, .int .i64 o, .slice A n cap]).kept g1)
       have G1 := Lib.hid (grown_trans' (grown_alloc w (.cells #[.int .i64 k, .int .i64 v, .int .i64 o, .slice A n cap] 24) none) g1)
       have c3 : w1.cell? ⟨w.heap.size, 3, none⟩ = some (.slice A n cap) := C1.out.at_ rfl
       clear g1))
  go_ret
  exact ⟨rfl, below_of_none G1.out⟩
set_option maxRecDepth 20000 in
set_option maxHeartbeats 8000000 in
theorem ta_true_true (w : World) (k v o : Int) (A A2 : Option Addr) (n cap m c2 : Nat) (d l2 : List UInt8) (hn : d.length = n) (hr : RB w w.heap.size A d cap) (hm : l2.length = m) (hr2 : RB w w.heap.size A2 l2 c2) (hl : ¬ 4000 < n) (hl2 : ¬ 4000 < m) (wh bn : Nat) (ys : Bool) (bo : List UInt8) (hx : auF k o d = (wh, ys, bo, true)) (hbn : bo.length = bn) :
    Calls Try.prog 6 #[.agg #[.int .i64 k, .int .i64 v, .int .i64 o, .slice A n cap], .bool true, .slice A2 m c2] w fun e w' => e = .returned (.bool true) ∧ Below w.heap.size w w' := by
  have HN := Lib.hid hn
  have HR := Lib.hid hr
  have HM := Lib.hid hm
  have HR2 := Lib.hid hr2
  have HL := Lib.hid hl
  have HL2 := Lib.hid hl2
  have HX := Lib.hid hx
  have HBN := Lib.hid hbn
  have hni : ¬ (4000 : Int) < (n : Int) := by omega
  have hmi : ¬ (4000 : Int) < (m : Int) := by omega
  have TK0 := Lib.hid True.intro
  clear hn hr hm hr2 hl hl2 hx hbn
  go_enter Try.func6, Try.ntmps6
  go_wp2_with (first
    | (go_at_call 8
       refine (speaks_any _).mono ?_
       rintro e w1 ⟨rfl, g1⟩
       have C1 := Lib.hid ((CB.new w 24 [.int .i64 k, .int .i64 v, .int .i64 o, .slice A n cap]).kept g1)
       have G1 := Lib.hid (grown_trans' (grown_alloc w (.cells #[.int .i64 k, .int .i64 v, .int .i64 o, .slice A n cap] 24) none) g1)
       have c3 : w1.cell? ⟨w.heap.size, 3, none⟩ = some (.slice A n cap) := C1.out.at_ rfl
       clear g1)
    | (refine wpList_loadC (off := 0) (p := [.int .i64 k, .int .i64 v, .int .i64 o, .slice A n cap]) aggT4 rfl (.tmp 3) rfl C1.out rfl (by simp) (by first | rfl | go_simp) ?_)
    | (go_at_call 17
       have hx := TK0
       clear hx TK0
       refine ((auth_any A k v o d n cap HN.out ((HR.out.below (below_of_none G1.out)).more G1.out.size) (by have := HL.out; omega)).mono (fun e w' h => auo h HX.out HBN.out (er := 0) rfl)).mono ?_
       rintro e w2 ⟨A5, c5, rfl, r5, g⟩
       have G2 := Lib.hid (grown_trans' G1.out g)
       have R5 := Lib.hid r5
       have C2 := Lib.hid (C1.out.kept g)
       have TK1 := Lib.hid True.intro
       clear g r5 c3)
    | (refine wpList_loadC (off := 0) (p := [.int .i64 k, .int .i64 v, .int .i64 o, .slice A n cap]) aggT4 rfl (.tmp 3) rfl C2.out rfl (by simp) (by first | rfl | go_simp) ?_)
    | (go_at_call 18
       refine ((refAuth_any A k v o d n cap HN.out ((HR.out.below (below_of_none G2.out)).more G2.out.size) (by have := HL.out; omega)).mono (fun e w' h => rao h HX.out HBN.out)).mono ?_
       rintro e w3 ⟨A6, c6, rfl, r6, g⟩
       have G3 := Lib.hid (grown_trans' G2.out g)
       have q5 : (convert 22 9 (.slice A5 bn c5)).run Try.prog w3 = .ok (.string ⟨bo.toArray⟩) w3 := convL ((R5.out.below (below_of_none g)).more g.size) HBN.out
       have q6 : (convert 22 9 (.slice A6 bn c6)).run Try.prog w3 = .ok (.string ⟨bo.toArray⟩) w3 := convL r6 HBN.out
       clear g r6)
    | (go_at_call 19
       refine (send_any.mono (fun e w' h => np (l := [1, 2, 2]) (m := 3) h rfl)).mono ?_
       rintro e w4 ⟨A7, c7, rfl, r7, g⟩
       have G4 := Lib.hid (grown_trans' G3.out g)
       have R7 := Lib.hid r7
       clear g r7 q5 q6)
    | (go_at_call 17
       have hx := TK1
       clear hx TK1
       refine ((auth_any A7 3 0 37 [1, 2, 2] 3 c7 rfl R7.out (by omega)).mono (fun e w' h => auo h au_send (m := 0) rfl (er := 0) rfl)).mono ?_
       rintro e w5 ⟨A8, c8, rfl, r8, g⟩
       have G5 := Lib.hid (grown_trans' G4.out g)
       have R8 := Lib.hid r8
       have TK2 := Lib.hid True.intro
       clear g r8)
    | (go_at_call 20
       refine ((is_any A2 l2 m c2 HM.out ((HR2.out.below (below_of_none G5.out)).more G5.out.size) (by have := HL2.out; omega)).mono (fun e w' h => np2 (m := m + 4) h (by rw [List.length_append, HM.out]; simp; omega))).mono ?_
       rintro e w6 ⟨A9, c9, rfl, r9, g⟩
       have G6 := Lib.hid (grown_trans' G5.out g)
       have R9 := Lib.hid r9
       clear g r9)
    | (go_at_call 17
       have hx := TK2
       clear hx TK2
       refine ((auth_any A9 3 0 37 ([0, 2, 2, 0] ++ l2) (m + 4) c9 (by rw [List.length_append, HM.out]; simp; omega) R9.out (by have := HL2.out; omega)).mono (fun e w' h => auo h (au_is l2) HM.out (er := 0) rfl)).mono ?_
       rintro e w7 ⟨A10, c10, rfl, r10, g⟩
       have G7 := Lib.hid (grown_trans' G6.out g)
       have R10 := Lib.hid r10
       have TK3 := Lib.hid True.intro
       clear g r10)
    | (go_at_call 21
       refine ((reply_yes A2 l2 m c2 HM.out ((HR2.out.below (below_of_none G7.out)).more G7.out.size) (by have := HL2.out; omega)).mono (fun e w' h => np2 (m := m + 4) h (by rw [List.length_append, HM.out]; simp; omega))).mono ?_
       rintro e w8 ⟨A11, c11, rfl, r11, g⟩
       have G8 := Lib.hid (grown_trans' G7.out g)
       have K8 := Lib.hid g
       have R11 := Lib.hid r11
       clear g r11)
    | (go_at_call 17
       have hx := TK3
       clear hx TK3
       refine ((auth_any A11 3 0 37 ([2, 2, 2, 2] ++ l2) (m + 4) c11 (by rw [List.length_append, HM.out]; simp; omega) R11.out (by have := HL2.out; omega)).mono (fun e w' h => auo h (au_yes l2) HM.out (er := 0) rfl)).mono ?_
       rintro e w9 ⟨A12, c12, rfl, r12, g⟩
       have G9 := Lib.hid (grown_trans' G8.out g)
       have R12 := Lib.hid r12
       have q10 : (convert 22 9 (.slice A10 m c10)).run Try.prog w9 = .ok (.string ⟨l2.toArray⟩) w9 := convL ((R10.out.below (below_of_none (grown_trans' K8.out g))).more (grown_trans' K8.out g).size) HM.out
       have q2 : (convert 22 9 (.slice A2 m c2)).run Try.prog w9 = .ok (.string ⟨l2.toArray⟩) w9 := convL ((HR2.out.below (below_of_none G9.out)).more G9.out.size) HM.out
       have q12 : (convert 22 9 (.slice A12 m c12)).run Try.prog w9 = .ok (.string ⟨l2.toArray⟩) w9 := convL R12.out HM.out
       clear g r12))
  go_ret
  exact ⟨rfl, below_of_none G9.out⟩
set_option maxRecDepth 20000 in
set_option maxHeartbeats 8000000 in
theorem ta_true_false (w : World) (k v o : Int) (A A2 : Option Addr) (n cap m c2 : Nat) (d l2 : List UInt8) (hn : d.length = n) (hr : RB w w.heap.size A d cap) (hm : l2.length = m) (hr2 : RB w w.heap.size A2 l2 c2) (hl : ¬ 4000 < n) (hl2 : ¬ 4000 < m) (wh bn : Nat) (ys : Bool) (bo : List UInt8) (hx : auF k o d = (wh, ys, bo, true)) (hbn : bo.length = bn) :
    Calls Try.prog 6 #[.agg #[.int .i64 k, .int .i64 v, .int .i64 o, .slice A n cap], .bool false, .slice A2 m c2] w fun e w' => e = .returned (.bool true) ∧ Below w.heap.size w w' := by
  have HN := Lib.hid hn
  have HR := Lib.hid hr
  have HM := Lib.hid hm
  have HR2 := Lib.hid hr2
  have HL := Lib.hid hl
  have HL2 := Lib.hid hl2
  have HX := Lib.hid hx
  have HBN := Lib.hid hbn
  have hni : ¬ (4000 : Int) < (n : Int) := by omega
  have hmi : ¬ (4000 : Int) < (m : Int) := by omega
  have TK0 := Lib.hid True.intro
  clear hn hr hm hr2 hl hl2 hx hbn
  go_enter Try.func6, Try.ntmps6
  go_wp2_with (first
    | (go_at_call 8
       refine (speaks_any _).mono ?_
       rintro e w1 ⟨rfl, g1⟩
       have C1 := Lib.hid ((CB.new w 24 [.int .i64 k, .int .i64 v, .int .i64 o, .slice A n cap]).kept g1)
       have G1 := Lib.hid (grown_trans' (grown_alloc w (.cells #[.int .i64 k, .int .i64 v, .int .i64 o, .slice A n cap] 24) none) g1)
       have c3 : w1.cell? ⟨w.heap.size, 3, none⟩ = some (.slice A n cap) := C1.out.at_ rfl
       clear g1)
    | (refine wpList_loadC (off := 0) (p := [.int .i64 k, .int .i64 v, .int .i64 o, .slice A n cap]) aggT4 rfl (.tmp 3) rfl C1.out rfl (by simp) (by first | rfl | go_simp) ?_)
    | (go_at_call 17
       have hx := TK0
       clear hx TK0
       refine ((auth_any A k v o d n cap HN.out ((HR.out.below (below_of_none G1.out)).more G1.out.size) (by have := HL.out; omega)).mono (fun e w' h => auo h HX.out HBN.out (er := 0) rfl)).mono ?_
       rintro e w2 ⟨A5, c5, rfl, r5, g⟩
       have G2 := Lib.hid (grown_trans' G1.out g)
       have R5 := Lib.hid r5
       have C2 := Lib.hid (C1.out.kept g)
       have TK1 := Lib.hid True.intro
       clear g r5 c3)
    | (refine wpList_loadC (off := 0) (p := [.int .i64 k, .int .i64 v, .int .i64 o, .slice A n cap]) aggT4 rfl (.tmp 3) rfl C2.out rfl (by simp) (by first | rfl | go_simp) ?_)
    | (go_at_call 18
       refine ((refAuth_any A k v o d n cap HN.out ((HR.out.below (below_of_none G2.out)).more G2.out.size) (by have := HL.out; omega)).mono (fun e w' h => rao h HX.out HBN.out)).mono ?_
       rintro e w3 ⟨A6, c6, rfl, r6, g⟩
       have G3 := Lib.hid (grown_trans' G2.out g)
       have q5 : (convert 22 9 (.slice A5 bn c5)).run Try.prog w3 = .ok (.string ⟨bo.toArray⟩) w3 := convL ((R5.out.below (below_of_none g)).more g.size) HBN.out
       have q6 : (convert 22 9 (.slice A6 bn c6)).run Try.prog w3 = .ok (.string ⟨bo.toArray⟩) w3 := convL r6 HBN.out
       clear g r6)
    | (go_at_call 19
       refine (send_any.mono (fun e w' h => np (l := [1, 2, 2]) (m := 3) h rfl)).mono ?_
       rintro e w4 ⟨A7, c7, rfl, r7, g⟩
       have G4 := Lib.hid (grown_trans' G3.out g)
       have R7 := Lib.hid r7
       clear g r7 q5 q6)
    | (go_at_call 17
       have hx := TK1
       clear hx TK1
       refine ((auth_any A7 3 0 37 [1, 2, 2] 3 c7 rfl R7.out (by omega)).mono (fun e w' h => auo h au_send (m := 0) rfl (er := 0) rfl)).mono ?_
       rintro e w5 ⟨A8, c8, rfl, r8, g⟩
       have G5 := Lib.hid (grown_trans' G4.out g)
       have R8 := Lib.hid r8
       have TK2 := Lib.hid True.intro
       clear g r8)
    | (go_at_call 20
       refine ((is_any A2 l2 m c2 HM.out ((HR2.out.below (below_of_none G5.out)).more G5.out.size) (by have := HL2.out; omega)).mono (fun e w' h => np2 (m := m + 4) h (by rw [List.length_append, HM.out]; simp; omega))).mono ?_
       rintro e w6 ⟨A9, c9, rfl, r9, g⟩
       have G6 := Lib.hid (grown_trans' G5.out g)
       have R9 := Lib.hid r9
       clear g r9)
    | (go_at_call 17
       have hx := TK2
       clear hx TK2
       refine ((auth_any A9 3 0 37 ([0, 2, 2, 0] ++ l2) (m + 4) c9 (by rw [List.length_append, HM.out]; simp; omega) R9.out (by have := HL2.out; omega)).mono (fun e w' h => auo h (au_is l2) HM.out (er := 0) rfl)).mono ?_
       rintro e w7 ⟨A10, c10, rfl, r10, g⟩
       have G7 := Lib.hid (grown_trans' G6.out g)
       have R10 := Lib.hid r10
       have TK3 := Lib.hid True.intro
       clear g r10)
    | (go_at_call 21
       refine ((reply_no A2 l2 m c2 HM.out ((HR2.out.below (below_of_none G7.out)).more G7.out.size) (by have := HL2.out; omega)).mono (fun e w' h => np2 (m := m + 4) h (by rw [List.length_append, HM.out]; simp; omega))).mono ?_
       rintro e w8 ⟨A11, c11, rfl, r11, g⟩
       have G8 := Lib.hid (grown_trans' G7.out g)
       have K8 := Lib.hid g
       have R11 := Lib.hid r11
       clear g r11)
    | (go_at_call 17
       have hx := TK3
       clear hx TK3
       refine ((auth_any A11 3 0 37 ([2, 2, 2, 1] ++ l2) (m + 4) c11 (by rw [List.length_append, HM.out]; simp; omega) R11.out (by have := HL2.out; omega)).mono (fun e w' h => auo h (au_no l2) HM.out (er := 0) rfl)).mono ?_
       rintro e w9 ⟨A12, c12, rfl, r12, g⟩
       have G9 := Lib.hid (grown_trans' G8.out g)
       have R12 := Lib.hid r12
       have q10 : (convert 22 9 (.slice A10 m c10)).run Try.prog w9 = .ok (.string ⟨l2.toArray⟩) w9 := convL ((R10.out.below (below_of_none (grown_trans' K8.out g))).more (grown_trans' K8.out g).size) HM.out
       have q2 : (convert 22 9 (.slice A2 m c2)).run Try.prog w9 = .ok (.string ⟨l2.toArray⟩) w9 := convL ((HR2.out.below (below_of_none G9.out)).more G9.out.size) HM.out
       have q12 : (convert 22 9 (.slice A12 m c12)).run Try.prog w9 = .ok (.string ⟨l2.toArray⟩) w9 := convL R12.out HM.out
       clear g r12))
  go_ret
  exact ⟨rfl, below_of_none G9.out⟩
set_option maxRecDepth 20000 in
set_option maxHeartbeats 8000000 in
theorem ta_false_true (w : World) (k v o : Int) (A A2 : Option Addr) (n cap m c2 : Nat) (d l2 : List UInt8) (hn : d.length = n) (hr : RB w w.heap.size A d cap) (hm : l2.length = m) (hr2 : RB w w.heap.size A2 l2 c2) (hl : ¬ 4000 < n) (hl2 : ¬ 4000 < m) (wh bn : Nat) (ys : Bool) (bo : List UInt8) (hx : auF k o d = (wh, ys, bo, false)) (hbn : bo.length = bn) :
    Calls Try.prog 6 #[.agg #[.int .i64 k, .int .i64 v, .int .i64 o, .slice A n cap], .bool true, .slice A2 m c2] w fun e w' => e = .returned (.bool true) ∧ Below w.heap.size w w' := by
  have HN := Lib.hid hn
  have HR := Lib.hid hr
  have HM := Lib.hid hm
  have HR2 := Lib.hid hr2
  have HL := Lib.hid hl
  have HL2 := Lib.hid hl2
  have HX := Lib.hid hx
  have HBN := Lib.hid hbn
  have hni : ¬ (4000 : Int) < (n : Int) := by omega
  have hmi : ¬ (4000 : Int) < (m : Int) := by omega
  have TK0 := Lib.hid True.intro
  clear hn hr hm hr2 hl hl2 hx hbn
  go_enter Try.func6, Try.ntmps6
  go_wp2_with (first
    | (go_at_call 8
       refine (speaks_any _).mono ?_
       rintro e w1 ⟨rfl, g1⟩
       have C1 := Lib.hid ((CB.new w 24 [.int .i64 k, .int .i64 v, .int .i64 o, .slice A n cap]).kept g1)
       have G1 := Lib.hid (grown_trans' (grown_alloc w (.cells #[.int .i64 k, .int .i64 v, .int .i64 o, .slice A n cap] 24) none) g1)
       have c3 : w1.cell? ⟨w.heap.size, 3, none⟩ = some (.slice A n cap) := C1.out.at_ rfl
       clear g1)
    | (refine wpList_loadC (off := 0) (p := [.int .i64 k, .int .i64 v, .int .i64 o, .slice A n cap]) aggT4 rfl (.tmp 3) rfl C1.out rfl (by simp) (by first | rfl | go_simp) ?_)
    | (go_at_call 17
       have hx := TK0
       clear hx TK0
       refine ((auth_any A k v o d n cap HN.out ((HR.out.below (below_of_none G1.out)).more G1.out.size) (by have := HL.out; omega)).mono (fun e w' h => auo h HX.out HBN.out (er := 21) rfl)).mono ?_
       rintro e w2 ⟨A5, c5, rfl, r5, g⟩
       have G2 := Lib.hid (grown_trans' G1.out g)
       have R5 := Lib.hid r5
       have C2 := Lib.hid (C1.out.kept g)
       have TK1 := Lib.hid True.intro
       clear g r5 c3)
    | (refine wpList_loadC (off := 0) (p := [.int .i64 k, .int .i64 v, .int .i64 o, .slice A n cap]) aggT4 rfl (.tmp 3) rfl C2.out rfl (by simp) (by first | rfl | go_simp) ?_)
    | (go_at_call 18
       refine ((refAuth_any A k v o d n cap HN.out ((HR.out.below (below_of_none G2.out)).more G2.out.size) (by have := HL.out; omega)).mono (fun e w' h => rao h HX.out HBN.out)).mono ?_
       rintro e w3 ⟨A6, c6, rfl, r6, g⟩
       have G3 := Lib.hid (grown_trans' G2.out g)
       have q5 : (convert 22 9 (.slice A5 bn c5)).run Try.prog w3 = .ok (.string ⟨bo.toArray⟩) w3 := convL ((R5.out.below (below_of_none g)).more g.size) HBN.out
       have q6 : (convert 22 9 (.slice A6 bn c6)).run Try.prog w3 = .ok (.string ⟨bo.toArray⟩) w3 := convL r6 HBN.out
       clear g r6)
    | (go_at_call 19
       refine (send_any.mono (fun e w' h => np (l := [1, 2, 2]) (m := 3) h rfl)).mono ?_
       rintro e w4 ⟨A7, c7, rfl, r7, g⟩
       have G4 := Lib.hid (grown_trans' G3.out g)
       have R7 := Lib.hid r7
       clear g r7 q5 q6)
    | (go_at_call 17
       have hx := TK1
       clear hx TK1
       refine ((auth_any A7 3 0 37 [1, 2, 2] 3 c7 rfl R7.out (by omega)).mono (fun e w' h => auo h au_send (m := 0) rfl (er := 0) rfl)).mono ?_
       rintro e w5 ⟨A8, c8, rfl, r8, g⟩
       have G5 := Lib.hid (grown_trans' G4.out g)
       have R8 := Lib.hid r8
       have TK2 := Lib.hid True.intro
       clear g r8)
    | (go_at_call 20
       refine ((is_any A2 l2 m c2 HM.out ((HR2.out.below (below_of_none G5.out)).more G5.out.size) (by have := HL2.out; omega)).mono (fun e w' h => np2 (m := m + 4) h (by rw [List.length_append, HM.out]; simp; omega))).mono ?_
       rintro e w6 ⟨A9, c9, rfl, r9, g⟩
       have G6 := Lib.hid (grown_trans' G5.out g)
       have R9 := Lib.hid r9
       clear g r9)
    | (go_at_call 17
       have hx := TK2
       clear hx TK2
       refine ((auth_any A9 3 0 37 ([0, 2, 2, 0] ++ l2) (m + 4) c9 (by rw [List.length_append, HM.out]; simp; omega) R9.out (by have := HL2.out; omega)).mono (fun e w' h => auo h (au_is l2) HM.out (er := 0) rfl)).mono ?_
       rintro e w7 ⟨A10, c10, rfl, r10, g⟩
       have G7 := Lib.hid (grown_trans' G6.out g)
       have R10 := Lib.hid r10
       have TK3 := Lib.hid True.intro
       clear g r10)
    | (go_at_call 21
       refine ((reply_yes A2 l2 m c2 HM.out ((HR2.out.below (below_of_none G7.out)).more G7.out.size) (by have := HL2.out; omega)).mono (fun e w' h => np2 (m := m + 4) h (by rw [List.length_append, HM.out]; simp; omega))).mono ?_
       rintro e w8 ⟨A11, c11, rfl, r11, g⟩
       have G8 := Lib.hid (grown_trans' G7.out g)
       have K8 := Lib.hid g
       have R11 := Lib.hid r11
       clear g r11)
    | (go_at_call 17
       have hx := TK3
       clear hx TK3
       refine ((auth_any A11 3 0 37 ([2, 2, 2, 2] ++ l2) (m + 4) c11 (by rw [List.length_append, HM.out]; simp; omega) R11.out (by have := HL2.out; omega)).mono (fun e w' h => auo h (au_yes l2) HM.out (er := 0) rfl)).mono ?_
       rintro e w9 ⟨A12, c12, rfl, r12, g⟩
       have G9 := Lib.hid (grown_trans' G8.out g)
       have R12 := Lib.hid r12
       have q10 : (convert 22 9 (.slice A10 m c10)).run Try.prog w9 = .ok (.string ⟨l2.toArray⟩) w9 := convL ((R10.out.below (below_of_none (grown_trans' K8.out g))).more (grown_trans' K8.out g).size) HM.out
       have q2 : (convert 22 9 (.slice A2 m c2)).run Try.prog w9 = .ok (.string ⟨l2.toArray⟩) w9 := convL ((HR2.out.below (below_of_none G9.out)).more G9.out.size) HM.out
       have q12 : (convert 22 9 (.slice A12 m c12)).run Try.prog w9 = .ok (.string ⟨l2.toArray⟩) w9 := convL R12.out HM.out
       clear g r12))
  go_ret
  exact ⟨rfl, below_of_none G9.out⟩
set_option maxRecDepth 20000 in
set_option maxHeartbeats 8000000 in
theorem ta_false_false (w : World) (k v o : Int) (A A2 : Option Addr) (n cap m c2 : Nat) (d l2 : List UInt8) (hn : d.length = n) (hr : RB w w.heap.size A d cap) (hm : l2.length = m) (hr2 : RB w w.heap.size A2 l2 c2) (hl : ¬ 4000 < n) (hl2 : ¬ 4000 < m) (wh bn : Nat) (ys : Bool) (bo : List UInt8) (hx : auF k o d = (wh, ys, bo, false)) (hbn : bo.length = bn) :
    Calls Try.prog 6 #[.agg #[.int .i64 k, .int .i64 v, .int .i64 o, .slice A n cap], .bool false, .slice A2 m c2] w fun e w' => e = .returned (.bool true) ∧ Below w.heap.size w w' := by
  have HN := Lib.hid hn
  have HR := Lib.hid hr
  have HM := Lib.hid hm
  have HR2 := Lib.hid hr2
  have HL := Lib.hid hl
  have HL2 := Lib.hid hl2
  have HX := Lib.hid hx
  have HBN := Lib.hid hbn
  have hni : ¬ (4000 : Int) < (n : Int) := by omega
  have hmi : ¬ (4000 : Int) < (m : Int) := by omega
  have TK0 := Lib.hid True.intro
  clear hn hr hm hr2 hl hl2 hx hbn
  go_enter Try.func6, Try.ntmps6
  go_wp2_with (first
    | (go_at_call 8
       refine (speaks_any _).mono ?_
       rintro e w1 ⟨rfl, g1⟩
       have C1 := Lib.hid ((CB.new w 24 [.int .i64 k, .int .i64 v, .int .i64 o, .slice A n cap]).kept g1)
       have G1 := Lib.hid (grown_trans' (grown_alloc w (.cells #[.int .i64 k, .int .i64 v, .int .i64 o, .slice A n cap] 24) none) g1)
       have c3 : w1.cell? ⟨w.heap.size, 3, none⟩ = some (.slice A n cap) := C1.out.at_ rfl
       clear g1)
    | (refine wpList_loadC (off := 0) (p := [.int .i64 k, .int .i64 v, .int .i64 o, .slice A n cap]) aggT4 rfl (.tmp 3) rfl C1.out rfl (by simp) (by first | rfl | go_simp) ?_)
    | (go_at_call 17
       have hx := TK0
       clear hx TK0
       refine ((auth_any A k v o d n cap HN.out ((HR.out.below (below_of_none G1.out)).more G1.out.size) (by have := HL.out; omega)).mono (fun e w' h => auo h HX.out HBN.out (er := 21) rfl)).mono ?_
       rintro e w2 ⟨A5, c5, rfl, r5, g⟩
       have G2 := Lib.hid (grown_trans' G1.out g)
       have R5 := Lib.hid r5
       have C2 := Lib.hid (C1.out.kept g)
       have TK1 := Lib.hid True.intro
       clear g r5 c3)
    | (refine wpList_loadC (off := 0) (p := [.int .i64 k, .int .i64 v, .int .i64 o, .slice A n cap]) aggT4 rfl (.tmp 3) rfl C2.out rfl (by simp) (by first | rfl | go_simp) ?_)
    | (go_at_call 18
       refine ((refAuth_any A k v o d n cap HN.out ((HR.out.below (below_of_none G2.out)).more G2.out.size) (by have := HL.out; omega)).mono (fun e w' h => rao h HX.out HBN.out)).mono ?_
       rintro e w3 ⟨A6, c6, rfl, r6, g⟩
       have G3 := Lib.hid (grown_trans' G2.out g)
       have q5 : (convert 22 9 (.slice A5 bn c5)).run Try.prog w3 = .ok (.string ⟨bo.toArray⟩) w3 := convL ((R5.out.below (below_of_none g)).more g.size) HBN.out
       have q6 : (convert 22 9 (.slice A6 bn c6)).run Try.prog w3 = .ok (.string ⟨bo.toArray⟩) w3 := convL r6 HBN.out
       clear g r6)
    | (go_at_call 19
       refine (send_any.mono (fun e w' h => np (l := [1, 2, 2]) (m := 3) h rfl)).mono ?_
       rintro e w4 ⟨A7, c7, rfl, r7, g⟩
       have G4 := Lib.hid (grown_trans' G3.out g)
       have R7 := Lib.hid r7
       clear g r7 q5 q6)
    | (go_at_call 17
       have hx := TK1
       clear hx TK1
       refine ((auth_any A7 3 0 37 [1, 2, 2] 3 c7 rfl R7.out (by omega)).mono (fun e w' h => auo h au_send (m := 0) rfl (er := 0) rfl)).mono ?_
       rintro e w5 ⟨A8, c8, rfl, r8, g⟩
       have G5 := Lib.hid (grown_trans' G4.out g)
       have R8 := Lib.hid r8
       have TK2 := Lib.hid True.intro
       clear g r8)
    | (go_at_call 20
       refine ((is_any A2 l2 m c2 HM.out ((HR2.out.below (below_of_none G5.out)).more G5.out.size) (by have := HL2.out; omega)).mono (fun e w' h => np2 (m := m + 4) h (by rw [List.length_append, HM.out]; simp; omega))).mono ?_
       rintro e w6 ⟨A9, c9, rfl, r9, g⟩
       have G6 := Lib.hid (grown_trans' G5.out g)
       have R9 := Lib.hid r9
       clear g r9)
    | (go_at_call 17
       have hx := TK2
       clear hx TK2
       refine ((auth_any A9 3 0 37 ([0, 2, 2, 0] ++ l2) (m + 4) c9 (by rw [List.length_append, HM.out]; simp; omega) R9.out (by have := HL2.out; omega)).mono (fun e w' h => auo h (au_is l2) HM.out (er := 0) rfl)).mono ?_
       rintro e w7 ⟨A10, c10, rfl, r10, g⟩
       have G7 := Lib.hid (grown_trans' G6.out g)
       have R10 := Lib.hid r10
       have TK3 := Lib.hid True.intro
       clear g r10)
    | (go_at_call 21
       refine ((reply_no A2 l2 m c2 HM.out ((HR2.out.below (below_of_none G7.out)).more G7.out.size) (by have := HL2.out; omega)).mono (fun e w' h => np2 (m := m + 4) h (by rw [List.length_append, HM.out]; simp; omega))).mono ?_
       rintro e w8 ⟨A11, c11, rfl, r11, g⟩
       have G8 := Lib.hid (grown_trans' G7.out g)
       have K8 := Lib.hid g
       have R11 := Lib.hid r11
       clear g r11)
    | (go_at_call 17
       have hx := TK3
       clear hx TK3
       refine ((auth_any A11 3 0 37 ([2, 2, 2, 1] ++ l2) (m + 4) c11 (by rw [List.length_append, HM.out]; simp; omega) R11.out (by have := HL2.out; omega)).mono (fun e w' h => auo h (au_no l2) HM.out (er := 0) rfl)).mono ?_
       rintro e w9 ⟨A12, c12, rfl, r12, g⟩
       have G9 := Lib.hid (grown_trans' G8.out g)
       have R12 := Lib.hid r12
       have q10 : (convert 22 9 (.slice A10 m c10)).run Try.prog w9 = .ok (.string ⟨l2.toArray⟩) w9 := convL ((R10.out.below (below_of_none (grown_trans' K8.out g))).more (grown_trans' K8.out g).size) HM.out
       have q2 : (convert 22 9 (.slice A2 m c2)).run Try.prog w9 = .ok (.string ⟨l2.toArray⟩) w9 := convL ((HR2.out.below (below_of_none G9.out)).more G9.out.size) HM.out
       have q12 : (convert 22 9 (.slice A12 m c12)).run Try.prog w9 = .ok (.string ⟨l2.toArray⟩) w9 := convL R12.out HM.out
       clear g r12))
  go_ret
  exact ⟨rfl, below_of_none G9.out⟩
theorem walk_TeloptAuths (w : World) (t : Tl) (_ : I64 t.kind ∧ I64 t.verb ∧ I64 t.opt) (A : Option Addr) (cap : Nat) (hr : RB w w.heap.size A t.data cap) (acc : Bool) (A2 : Option Addr) (l2 : List UInt8) (c2 : Nat) (hr2 : RB w w.heap.size A2 l2 c2) :
    Calls Try.prog 6 #[.agg #[.int .i64 t.kind, .int .i64 t.verb, .int .i64 t.opt, .slice A t.data.length cap], .bool acc, .slice A2 l2.length c2] w fun e w' => e = .returned (.bool true) ∧ Below w.heap.size w w' := by
  by_cases hl : 4000 < t.data.length
  · exact ta_long w _ _ _ A A2 _ cap _ c2 acc hl
  by_cases hl2 : 4000 < l2.length
  · exact ta_long2 w _ _ _ A A2 _ cap _ c2 acc hl hl2
  obtain ⟨⟨wh, ys, bo, ok⟩, hx⟩ : ∃ x, auF t.kind t.opt t.data = x := ⟨_, rfl⟩
  cases ok <;> cases acc
  · exact ta_false_false w _ _ _ A A2 _ cap _ c2 _ l2 rfl hr rfl hr2 hl hl2 wh _ ys bo hx rfl
  · exact ta_false_true w _ _ _ A A2 _ cap _ c2 _ l2 rfl hr rfl hr2 hl hl2 wh _ ys bo hx rfl
  · exact ta_true_false w _ _ _ A A2 _ cap _ c2 _ l2 rfl hr rfl hr2 hl hl2 wh _ ys bo hx rfl
  · exact ta_true_true w _ _ _ A A2 _ cap _ c2 _ l2 rfl hr rfl hr2 hl hl2 wh _ ys bo hx rfl
end Go.Proofs.Ytcfhpoigfkljpaa
