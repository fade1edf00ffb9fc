/- The document's Right answers whether a message may be written (krb). -/
import Derived.Test.YtnfmbgmncdodkaaDoorKuA
import Derived.Test.YtnfmbgmncdodkaaDoorKuB
namespace Go.Proofs.YtnfmbgmncdodkaaDoor
open Go.RowKit
theorem refRight_1 (m : Msg) (T : Option Addr) (tc : Nat) (S : Option Addr) (sc : Nat) (w : World) (hk : m.kd = 1) (h1 : I64k m.en) (h2 : I64k m.fl) (h3 : I64k m.co) (hc : m.c.size ≤ 10000) (hs : m.s.size ≤ 10000) :
    Calls Tryd.prog 27 #[.agg (kcells m T tc S sc).toArray] w fun e w' => e = .returned (.bool (okK m)) ∧ w.grownBy w' none := by
  rw [okK_1 hk h1 h2 h3]
  obtain ⟨n6, hn6⟩ : ∃ n, m.t.length = n := ⟨_, rfl⟩
  obtain ⟨n7, hn7⟩ : ∃ n, m.sl.length = n := ⟨_, rfl⟩
  rcases Bool.eq_false_or_eq_true (parses m.c.data.toList) with h32 | h32
  rotate_left
  · rw [h32, Bool.false_and]
    exact refRight_1_0 w hn6 hn7 hk hc hs h32
  rw [h32, Bool.true_and]
  rcases Bool.eq_false_or_eq_true (parses m.s.data.toList) with h33 | h33
  rotate_left
  · rw [h33, Bool.false_and]
    exact refRight_1_1 w hn6 hn7 hk hc hs h32 h33
  rw [h33, Bool.true_and]
  by_cases h35 : m.en < 0
  · rw [show timeOk m.en = false from by unfold timeOk; simp; omega, Bool.false_and]
    exact refRight_1_2 w hn6 hn7 hk hc hs h32 h33 (decide_eq_true h35)
  by_cases g35 : 1099511627776 < m.en
  · rw [show timeOk m.en = false from by unfold timeOk; simp; omega, Bool.false_and]
    exact refRight_1_3 w hn6 hn7 hk hc hs h32 h33 (decide_eq_false h35) (decide_eq_true g35)
  rw [show timeOk m.en = true from by unfold timeOk; simp; omega, Bool.true_and]
  by_cases h36 : m.fl < 0
  · rw [show flagsOk m.fl = false from by unfold flagsOk; simp; omega, Bool.false_and]
    exact refRight_1_4 w hn6 hn7 hk hc hs h32 h33 (decide_eq_false h35) (decide_eq_false g35) (decide_eq_true h36)
  by_cases g36 : 3 < m.fl
  · rw [show flagsOk m.fl = false from by unfold flagsOk; simp; omega, Bool.false_and]
    exact refRight_1_5 w hn6 hn7 hk hc hs h32 h33 (decide_eq_false h35) (decide_eq_false g35) (decide_eq_false h36) (decide_eq_true g36)
  rw [show flagsOk m.fl = true from by unfold flagsOk; simp; omega, Bool.true_and]
  by_cases h37 : (3000 : Int) < ((n6 : Nat) : Int)
  · rw [decide_eq_false (show ¬(m.t.length = 0) by omega), Bool.false_and]
    exact refRight_1_6 w hn6 hn7 hk hc hs h32 h33 (decide_eq_false h35) (decide_eq_false g35) (decide_eq_false h36) (decide_eq_false g36) (decide_eq_true h37)
  by_cases g37 : (0 : Int) < ((n6 : Nat) : Int)
  · rw [decide_eq_false (show ¬(m.t.length = 0) by omega), Bool.false_and]
    exact refRight_1_7 w hn6 hn7 hk hc hs h32 h33 (decide_eq_false h35) (decide_eq_false g35) (decide_eq_false h36) (decide_eq_false g36) (decide_eq_false h37) (decide_eq_true g37)
  rw [decide_eq_true (show m.t.length = 0 by omega), Bool.true_and]
  by_cases h38 : (3000 : Int) < ((n7 : Nat) : Int)
  · rw [decide_eq_false (show ¬(m.sl.length = 0) by omega), Bool.false_and]
    exact refRight_1_8 w hn6 hn7 hk hc hs h32 h33 (decide_eq_false h35) (decide_eq_false g35) (decide_eq_false h36) (decide_eq_false g36) (show n6 = 0 by omega) (decide_eq_true h38)
  by_cases g38 : (0 : Int) < ((n7 : Nat) : Int)
  · rw [decide_eq_false (show ¬(m.sl.length = 0) by omega), Bool.false_and]
    exact refRight_1_9 w hn6 hn7 hk hc hs h32 h33 (decide_eq_false h35) (decide_eq_false g35) (decide_eq_false h36) (decide_eq_false g36) (show n6 = 0 by omega) (decide_eq_false h38) (decide_eq_true g38)
  rw [decide_eq_true (show m.sl.length = 0 by omega), Bool.true_and]
  exact refRight_1_10 w hn6 hn7 hk hc hs h32 h33 (decide_eq_false h35) (decide_eq_false g35) (decide_eq_false h36) (decide_eq_false g36) (show n6 = 0 by omega) (show n7 = 0 by omega)
theorem refRight_2 (m : Msg) (T : Option Addr) (tc : Nat) (S : Option Addr) (sc : Nat) (w : World) (hk : m.kd = 2) (h1 : I64k m.en) (h2 : I64k m.fl) (h3 : I64k m.co) (hc : m.c.size ≤ 10000) (hs : m.s.size ≤ 10000) :
    Calls Tryd.prog 27 #[.agg (kcells m T tc S sc).toArray] w fun e w' => e = .returned (.bool (okK m)) ∧ w.grownBy w' none := by
  rw [okK_2 hk h1 h2 h3]
  obtain ⟨n6, hn6⟩ : ∃ n, m.t.length = n := ⟨_, rfl⟩
  obtain ⟨n7, hn7⟩ : ∃ n, m.sl.length = n := ⟨_, rfl⟩
  by_cases h32 : m.c = ⟨#[]⟩
  rotate_left
  · rw [decide_eq_false h32, Bool.false_and]
    exact refRight_2_0 w hn6 hn7 hk hc hs h32
  rw [decide_eq_true h32, Bool.true_and]
  rcases Bool.eq_false_or_eq_true (parses m.s.data.toList) with h33 | h33
  rotate_left
  · rw [h33, Bool.false_and]
    exact refRight_2_1 w hn6 hn7 hk hc hs h32 h33
  rw [h33, Bool.true_and]
  by_cases h35 : m.en < 0
  · rw [show timeOk m.en = false from by unfold timeOk; simp; omega, Bool.false_and]
    exact refRight_2_2 w hn6 hn7 hk hc hs h32 h33 (decide_eq_true h35)
  by_cases g35 : 1099511627776 < m.en
  · rw [show timeOk m.en = false from by unfold timeOk; simp; omega, Bool.false_and]
    exact refRight_2_3 w hn6 hn7 hk hc hs h32 h33 (decide_eq_false h35) (decide_eq_true g35)
  rw [show timeOk m.en = true from by unfold timeOk; simp; omega, Bool.true_and]
  by_cases h36 : m.fl < 0
  · rw [show flagsOk m.fl = false from by unfold flagsOk; simp; omega, Bool.false_and]
    exact refRight_2_4 w hn6 hn7 hk hc hs h32 h33 (decide_eq_false h35) (decide_eq_false g35) (decide_eq_true h36)
  by_cases g36 : 3 < m.fl
  · rw [show flagsOk m.fl = false from by unfold flagsOk; simp; omega, Bool.false_and]
    exact refRight_2_5 w hn6 hn7 hk hc hs h32 h33 (decide_eq_false h35) (decide_eq_false g35) (decide_eq_false h36) (decide_eq_true g36)
  rw [show flagsOk m.fl = true from by unfold flagsOk; simp; omega, Bool.true_and]
  by_cases h37 : (3000 : Int) < ((n6 : Nat) : Int)
  · rw [decide_eq_false (show ¬(m.t.length ≤ 3000) by omega), Bool.false_and]
    exact refRight_2_6 w hn6 hn7 hk hc hs h32 h33 (decide_eq_false h35) (decide_eq_false g35) (decide_eq_false h36) (decide_eq_false g36) (decide_eq_true h37)
  rw [decide_eq_true (show m.t.length ≤ 3000 by omega), Bool.true_and]
  by_cases h38 : (3000 : Int) < ((n7 : Nat) : Int)
  · rw [decide_eq_false (show ¬(m.sl.length ≤ 3000) by omega), Bool.false_and]
    exact refRight_2_7 w hn6 hn7 hk hc hs h32 h33 (decide_eq_false h35) (decide_eq_false g35) (decide_eq_false h36) (decide_eq_false g36) (decide_eq_false h37) (decide_eq_true h38)
  rw [decide_eq_true (show m.sl.length ≤ 3000 by omega), Bool.true_and]
  exact refRight_2_8 w hn6 hn7 hk hc hs h32 h33 (decide_eq_false h35) (decide_eq_false g35) (decide_eq_false h36) (decide_eq_false g36) (decide_eq_false h37) (decide_eq_false h38)
theorem refRight_3 (m : Msg) (T : Option Addr) (tc : Nat) (S : Option Addr) (sc : Nat) (w : World) (hk : m.kd = 3) (h1 : I64k m.en) (h2 : I64k m.fl) (h3 : I64k m.co) (hc : m.c.size ≤ 10000) (hs : m.s.size ≤ 10000) :
    Calls Tryd.prog 27 #[.agg (kcells m T tc S sc).toArray] w fun e w' => e = .returned (.bool (okK m)) ∧ w.grownBy w' none := by
  rw [okK_3 hk h1 h2 h3]
  obtain ⟨n6, hn6⟩ : ∃ n, m.t.length = n := ⟨_, rfl⟩
  obtain ⟨n7, hn7⟩ : ∃ n, m.sl.length = n := ⟨_, rfl⟩
  by_cases h32 : m.c = ⟨#[]⟩
  rotate_left
  · rw [decide_eq_false h32, Bool.false_and]
    exact refRight_3_0 w hn6 hn7 hk hc hs h32
  rw [decide_eq_true h32, Bool.true_and]
  by_cases h33 : m.s = ⟨#[]⟩
  rotate_left
  · rw [decide_eq_false h33, Bool.false_and]
    exact refRight_3_1 w hn6 hn7 hk hc hs h32 h33
  rw [decide_eq_true h33, Bool.true_and]
  by_cases h35 : m.en < 0
  · rw [show decide (m.en = 0) = false from decide_eq_false (by omega), Bool.false_and]
    exact refRight_3_2 w hn6 hn7 hk hc hs h32 h33 (decide_eq_true h35)
  by_cases g35 : 1099511627776 < m.en
  · rw [show decide (m.en = 0) = false from decide_eq_false (by omega), Bool.false_and]
    exact refRight_3_3 w hn6 hn7 hk hc hs h32 h33 (decide_eq_false h35) (decide_eq_true g35)
  by_cases z35 : m.en = 0
  rotate_left
  · rw [decide_eq_false z35, Bool.false_and]
    exact refRight_3_4 w hn6 hn7 hk hc hs h32 h33 (decide_eq_false h35) (decide_eq_false g35) z35
  rw [decide_eq_true z35, Bool.true_and]
  by_cases h36 : m.fl < 0
  · rw [show decide (m.fl = 0) = false from decide_eq_false (by omega), Bool.false_and]
    exact refRight_3_5 w hn6 hn7 hk hc hs h32 h33 z35 (decide_eq_true h36)
  by_cases g36 : 3 < m.fl
  · rw [show decide (m.fl = 0) = false from decide_eq_false (by omega), Bool.false_and]
    exact refRight_3_6 w hn6 hn7 hk hc hs h32 h33 z35 (decide_eq_false h36) (decide_eq_true g36)
  by_cases z36 : m.fl = 0
  rotate_left
  · rw [decide_eq_false z36, Bool.false_and]
    exact refRight_3_7 w hn6 hn7 hk hc hs h32 h33 z35 (decide_eq_false h36) (decide_eq_false g36) z36
  rw [decide_eq_true z36, Bool.true_and]
  by_cases h37 : (3000 : Int) < ((n6 : Nat) : Int)
  · rw [decide_eq_false (show ¬(m.t.length ≤ 3000) by omega), Bool.false_and]
    exact refRight_3_8 w hn6 hn7 hk hc hs h32 h33 z35 z36 (decide_eq_true h37)
  rw [decide_eq_true (show m.t.length ≤ 3000 by omega), Bool.true_and]
  by_cases h38 : (3000 : Int) < ((n7 : Nat) : Int)
  · rw [decide_eq_false (show ¬(m.sl.length ≤ 3000) by omega), Bool.false_and]
    exact refRight_3_9 w hn6 hn7 hk hc hs h32 h33 z35 z36 (decide_eq_false h37) (decide_eq_true h38)
  rw [decide_eq_true (show m.sl.length ≤ 3000 by omega), Bool.true_and]
  exact refRight_3_10 w hn6 hn7 hk hc hs h32 h33 z35 z36 (decide_eq_false h37) (decide_eq_false h38)
theorem refRight_4 (m : Msg) (T : Option Addr) (tc : Nat) (S : Option Addr) (sc : Nat) (w : World) (hk : m.kd = 4) (h1 : I64k m.en) (h2 : I64k m.fl) (h3 : I64k m.co) (hc : m.c.size ≤ 10000) (hs : m.s.size ≤ 10000) :
    Calls Tryd.prog 27 #[.agg (kcells m T tc S sc).toArray] w fun e w' => e = .returned (.bool (okK m)) ∧ w.grownBy w' none := by
  rw [okK_4 hk h1 h2 h3]
  obtain ⟨n6, hn6⟩ : ∃ n, m.t.length = n := ⟨_, rfl⟩
  obtain ⟨n7, hn7⟩ : ∃ n, m.sl.length = n := ⟨_, rfl⟩
  by_cases h32 : m.c = ⟨#[]⟩
  rotate_left
  · rw [decide_eq_false h32, Bool.false_and]
    exact refRight_4_0 w hn6 hn7 hk hc hs h32
  rw [decide_eq_true h32, Bool.true_and]
  by_cases h33 : m.s = ⟨#[]⟩
  rotate_left
  · rw [decide_eq_false h33, Bool.false_and]
    exact refRight_4_1 w hn6 hn7 hk hc hs h32 h33
  rw [decide_eq_true h33, Bool.true_and]
  by_cases h35 : m.en < 0
  · rw [show decide (m.en = 0) = false from decide_eq_false (by omega), Bool.false_and]
    exact refRight_4_2 w hn6 hn7 hk hc hs h32 h33 (decide_eq_true h35)
  by_cases g35 : 1099511627776 < m.en
  · rw [show decide (m.en = 0) = false from decide_eq_false (by omega), Bool.false_and]
    exact refRight_4_3 w hn6 hn7 hk hc hs h32 h33 (decide_eq_false h35) (decide_eq_true g35)
  by_cases z35 : m.en = 0
  rotate_left
  · rw [decide_eq_false z35, Bool.false_and]
    exact refRight_4_4 w hn6 hn7 hk hc hs h32 h33 (decide_eq_false h35) (decide_eq_false g35) z35
  rw [decide_eq_true z35, Bool.true_and]
  by_cases h36 : m.fl < 0
  · rw [show decide (m.fl = 0) = false from decide_eq_false (by omega), Bool.false_and]
    exact refRight_4_5 w hn6 hn7 hk hc hs h32 h33 z35 (decide_eq_true h36)
  by_cases g36 : 3 < m.fl
  · rw [show decide (m.fl = 0) = false from decide_eq_false (by omega), Bool.false_and]
    exact refRight_4_6 w hn6 hn7 hk hc hs h32 h33 z35 (decide_eq_false h36) (decide_eq_true g36)
  by_cases z36 : m.fl = 0
  rotate_left
  · rw [decide_eq_false z36, Bool.false_and]
    exact refRight_4_7 w hn6 hn7 hk hc hs h32 h33 z35 (decide_eq_false h36) (decide_eq_false g36) z36
  rw [decide_eq_true z36, Bool.true_and]
  by_cases h37 : (3000 : Int) < ((n6 : Nat) : Int)
  · rw [decide_eq_false (show ¬(m.t.length ≤ 3000) by omega), Bool.false_and]
    exact refRight_4_8 w hn6 hn7 hk hc hs h32 h33 z35 z36 (decide_eq_true h37)
  rw [decide_eq_true (show m.t.length ≤ 3000 by omega), Bool.true_and]
  by_cases h38 : (3000 : Int) < ((n7 : Nat) : Int)
  · rw [decide_eq_false (show ¬(m.sl.length ≤ 3000) by omega), Bool.false_and]
    exact refRight_4_9 w hn6 hn7 hk hc hs h32 h33 z35 z36 (decide_eq_false h37) (decide_eq_true h38)
  rw [decide_eq_true (show m.sl.length ≤ 3000 by omega), Bool.true_and]
  exact refRight_4_10 w hn6 hn7 hk hc hs h32 h33 z35 z36 (decide_eq_false h37) (decide_eq_false h38)
theorem refRight_5 (m : Msg) (T : Option Addr) (tc : Nat) (S : Option Addr) (sc : Nat) (w : World) (hk : m.kd = 5) (h1 : I64k m.en) (h2 : I64k m.fl) (h3 : I64k m.co) (hc : m.c.size ≤ 10000) (hs : m.s.size ≤ 10000) :
    Calls Tryd.prog 27 #[.agg (kcells m T tc S sc).toArray] w fun e w' => e = .returned (.bool (okK m)) ∧ w.grownBy w' none := by
  rw [okK_5 hk h1 h2 h3]
  obtain ⟨n6, hn6⟩ : ∃ n, m.t.length = n := ⟨_, rfl⟩
  obtain ⟨n7, hn7⟩ : ∃ n, m.sl.length = n := ⟨_, rfl⟩
  by_cases h32 : m.c = ⟨#[]⟩
  rotate_left
  · rw [decide_eq_false h32, Bool.false_and]
    exact refRight_5_0 w hn6 hn7 hk hc hs h32
  rw [decide_eq_true h32, Bool.true_and]
  by_cases h33 : m.s = ⟨#[]⟩
  rotate_left
  · rw [decide_eq_false h33, Bool.false_and]
    exact refRight_5_1 w hn6 hn7 hk hc hs h32 h33
  rw [decide_eq_true h33, Bool.true_and]
  by_cases h35 : m.en < 0
  · rw [show decide (m.en = 0) = false from decide_eq_false (by omega), Bool.false_and]
    exact refRight_5_2 w hn6 hn7 hk hc hs h32 h33 (decide_eq_true h35)
  by_cases g35 : 1099511627776 < m.en
  · rw [show decide (m.en = 0) = false from decide_eq_false (by omega), Bool.false_and]
    exact refRight_5_3 w hn6 hn7 hk hc hs h32 h33 (decide_eq_false h35) (decide_eq_true g35)
  by_cases z35 : m.en = 0
  rotate_left
  · rw [decide_eq_false z35, Bool.false_and]
    exact refRight_5_4 w hn6 hn7 hk hc hs h32 h33 (decide_eq_false h35) (decide_eq_false g35) z35
  rw [decide_eq_true z35, Bool.true_and]
  by_cases h36 : m.fl < 0
  · rw [show decide (m.fl = 0) = false from decide_eq_false (by omega), Bool.false_and]
    exact refRight_5_5 w hn6 hn7 hk hc hs h32 h33 z35 (decide_eq_true h36)
  by_cases g36 : 3 < m.fl
  · rw [show decide (m.fl = 0) = false from decide_eq_false (by omega), Bool.false_and]
    exact refRight_5_6 w hn6 hn7 hk hc hs h32 h33 z35 (decide_eq_false h36) (decide_eq_true g36)
  by_cases z36 : m.fl = 0
  rotate_left
  · rw [decide_eq_false z36, Bool.false_and]
    exact refRight_5_7 w hn6 hn7 hk hc hs h32 h33 z35 (decide_eq_false h36) (decide_eq_false g36) z36
  rw [decide_eq_true z36, Bool.true_and]
  by_cases h37 : (3000 : Int) < ((n6 : Nat) : Int)
  · rw [decide_eq_false (show ¬(m.t.length = 0) by omega), Bool.false_and]
    exact refRight_5_8 w hn6 hn7 hk hc hs h32 h33 z35 z36 (decide_eq_true h37)
  by_cases g37 : (0 : Int) < ((n6 : Nat) : Int)
  · rw [decide_eq_false (show ¬(m.t.length = 0) by omega), Bool.false_and]
    exact refRight_5_9 w hn6 hn7 hk hc hs h32 h33 z35 z36 (decide_eq_false h37) (decide_eq_true g37)
  rw [decide_eq_true (show m.t.length = 0 by omega), Bool.true_and]
  by_cases h38 : (3000 : Int) < ((n7 : Nat) : Int)
  · rw [decide_eq_false (show ¬(m.sl.length ≤ 3000) by omega), Bool.false_and]
    exact refRight_5_10 w hn6 hn7 hk hc hs h32 h33 z35 z36 (show n6 = 0 by omega) (decide_eq_true h38)
  rw [decide_eq_true (show m.sl.length ≤ 3000 by omega), Bool.true_and]
  exact refRight_5_11 w hn6 hn7 hk hc hs h32 h33 z35 z36 (show n6 = 0 by omega) (decide_eq_false h38)
theorem refRight_6 (m : Msg) (T : Option Addr) (tc : Nat) (S : Option Addr) (sc : Nat) (w : World) (hk : m.kd = 6) (h1 : I64k m.en) (h2 : I64k m.fl) (h3 : I64k m.co) (hc : m.c.size ≤ 10000) (hs : m.s.size ≤ 10000) :
    Calls Tryd.prog 27 #[.agg (kcells m T tc S sc).toArray] w fun e w' => e = .returned (.bool (okK m)) ∧ w.grownBy w' none := by
  rw [okK_6 hk h1 h2 h3]
  obtain ⟨n6, hn6⟩ : ∃ n, m.t.length = n := ⟨_, rfl⟩
  obtain ⟨n7, hn7⟩ : ∃ n, m.sl.length = n := ⟨_, rfl⟩
  by_cases h32 : m.c = ⟨#[]⟩
  rotate_left
  · rw [decide_eq_false h32, Bool.false_and]
    exact refRight_6_0 w hn6 hn7 hk hc hs h32
  rw [decide_eq_true h32, Bool.true_and]
  by_cases h33 : m.s = ⟨#[]⟩
  rotate_left
  · rw [decide_eq_false h33, Bool.false_and]
    exact refRight_6_1 w hn6 hn7 hk hc hs h32 h33
  rw [decide_eq_true h33, Bool.true_and]
  by_cases h35 : m.en < 0
  · rw [show decide (m.en = 0) = false from decide_eq_false (by omega), Bool.false_and]
    exact refRight_6_2 w hn6 hn7 hk hc hs h32 h33 (decide_eq_true h35)
  by_cases g35 : 1099511627776 < m.en
  · rw [show decide (m.en = 0) = false from decide_eq_false (by omega), Bool.false_and]
    exact refRight_6_3 w hn6 hn7 hk hc hs h32 h33 (decide_eq_false h35) (decide_eq_true g35)
  by_cases z35 : m.en = 0
  rotate_left
  · rw [decide_eq_false z35, Bool.false_and]
    exact refRight_6_4 w hn6 hn7 hk hc hs h32 h33 (decide_eq_false h35) (decide_eq_false g35) z35
  rw [decide_eq_true z35, Bool.true_and]
  by_cases h36 : m.fl < 0
  · rw [show decide (m.fl = 0) = false from decide_eq_false (by omega), Bool.false_and]
    exact refRight_6_5 w hn6 hn7 hk hc hs h32 h33 z35 (decide_eq_true h36)
  by_cases g36 : 3 < m.fl
  · rw [show decide (m.fl = 0) = false from decide_eq_false (by omega), Bool.false_and]
    exact refRight_6_6 w hn6 hn7 hk hc hs h32 h33 z35 (decide_eq_false h36) (decide_eq_true g36)
  by_cases z36 : m.fl = 0
  rotate_left
  · rw [decide_eq_false z36, Bool.false_and]
    exact refRight_6_7 w hn6 hn7 hk hc hs h32 h33 z35 (decide_eq_false h36) (decide_eq_false g36) z36
  rw [decide_eq_true z36, Bool.true_and]
  by_cases h37 : (3000 : Int) < ((n6 : Nat) : Int)
  · rw [decide_eq_false (show ¬(m.t.length = 0) by omega), Bool.false_and]
    exact refRight_6_8 w hn6 hn7 hk hc hs h32 h33 z35 z36 (decide_eq_true h37)
  by_cases g37 : (0 : Int) < ((n6 : Nat) : Int)
  · rw [decide_eq_false (show ¬(m.t.length = 0) by omega), Bool.false_and]
    exact refRight_6_9 w hn6 hn7 hk hc hs h32 h33 z35 z36 (decide_eq_false h37) (decide_eq_true g37)
  rw [decide_eq_true (show m.t.length = 0 by omega), Bool.true_and]
  by_cases h38 : (3000 : Int) < ((n7 : Nat) : Int)
  · rw [decide_eq_false (show ¬(m.sl.length ≤ 3000) by omega), Bool.false_and]
    exact refRight_6_10 w hn6 hn7 hk hc hs h32 h33 z35 z36 (show n6 = 0 by omega) (decide_eq_true h38)
  rw [decide_eq_true (show m.sl.length ≤ 3000 by omega), Bool.true_and]
  exact refRight_6_11 w hn6 hn7 hk hc hs h32 h33 z35 z36 (show n6 = 0 by omega) (decide_eq_false h38)
theorem refRight_7 (m : Msg) (T : Option Addr) (tc : Nat) (S : Option Addr) (sc : Nat) (w : World) (hk : m.kd = 7) (h1 : I64k m.en) (h2 : I64k m.fl) (h3 : I64k m.co) (hc : m.c.size ≤ 10000) (hs : m.s.size ≤ 10000) :
    Calls Tryd.prog 27 #[.agg (kcells m T tc S sc).toArray] w fun e w' => e = .returned (.bool (okK m)) ∧ w.grownBy w' none := by
  rw [okK_7 hk h1 h2 h3]
  obtain ⟨n6, hn6⟩ : ∃ n, m.t.length = n := ⟨_, rfl⟩
  obtain ⟨n7, hn7⟩ : ∃ n, m.sl.length = n := ⟨_, rfl⟩
  by_cases h32 : m.c = ⟨#[]⟩
  rotate_left
  · rw [decide_eq_false h32, Bool.false_and]
    exact refRight_7_0 w hn6 hn7 hk hc hs h32
  rw [decide_eq_true h32, Bool.true_and]
  by_cases h33 : m.s = ⟨#[]⟩
  rotate_left
  · rw [decide_eq_false h33, Bool.false_and]
    exact refRight_7_1 w hn6 hn7 hk hc hs h32 h33
  rw [decide_eq_true h33, Bool.true_and]
  by_cases h35 : m.en < 0
  · rw [show decide (m.en = 0) = false from decide_eq_false (by omega), Bool.false_and]
    exact refRight_7_2 w hn6 hn7 hk hc hs h32 h33 (decide_eq_true h35)
  by_cases g35 : 1099511627776 < m.en
  · rw [show decide (m.en = 0) = false from decide_eq_false (by omega), Bool.false_and]
    exact refRight_7_3 w hn6 hn7 hk hc hs h32 h33 (decide_eq_false h35) (decide_eq_true g35)
  by_cases z35 : m.en = 0
  rotate_left
  · rw [decide_eq_false z35, Bool.false_and]
    exact refRight_7_4 w hn6 hn7 hk hc hs h32 h33 (decide_eq_false h35) (decide_eq_false g35) z35
  rw [decide_eq_true z35, Bool.true_and]
  by_cases h36 : m.fl < 0
  · rw [show decide (m.fl = 0) = false from decide_eq_false (by omega), Bool.false_and]
    exact refRight_7_5 w hn6 hn7 hk hc hs h32 h33 z35 (decide_eq_true h36)
  by_cases g36 : 3 < m.fl
  · rw [show decide (m.fl = 0) = false from decide_eq_false (by omega), Bool.false_and]
    exact refRight_7_6 w hn6 hn7 hk hc hs h32 h33 z35 (decide_eq_false h36) (decide_eq_true g36)
  by_cases z36 : m.fl = 0
  rotate_left
  · rw [decide_eq_false z36, Bool.false_and]
    exact refRight_7_7 w hn6 hn7 hk hc hs h32 h33 z35 (decide_eq_false h36) (decide_eq_false g36) z36
  rw [decide_eq_true z36, Bool.true_and]
  by_cases h37 : (3000 : Int) < ((n6 : Nat) : Int)
  · rw [decide_eq_false (show ¬(m.t.length = 0) by omega), Bool.false_and]
    exact refRight_7_8 w hn6 hn7 hk hc hs h32 h33 z35 z36 (decide_eq_true h37)
  by_cases g37 : (0 : Int) < ((n6 : Nat) : Int)
  · rw [decide_eq_false (show ¬(m.t.length = 0) by omega), Bool.false_and]
    exact refRight_7_9 w hn6 hn7 hk hc hs h32 h33 z35 z36 (decide_eq_false h37) (decide_eq_true g37)
  rw [decide_eq_true (show m.t.length = 0 by omega), Bool.true_and]
  by_cases h38 : (3000 : Int) < ((n7 : Nat) : Int)
  · rw [decide_eq_false (show ¬(m.sl.length = 0) by omega), Bool.false_and]
    exact refRight_7_10 w hn6 hn7 hk hc hs h32 h33 z35 z36 (show n6 = 0 by omega) (decide_eq_true h38)
  by_cases g38 : (0 : Int) < ((n7 : Nat) : Int)
  · rw [decide_eq_false (show ¬(m.sl.length = 0) by omega), Bool.false_and]
    exact refRight_7_11 w hn6 hn7 hk hc hs h32 h33 z35 z36 (show n6 = 0 by omega) (decide_eq_false h38) (decide_eq_true g38)
  rw [decide_eq_true (show m.sl.length = 0 by omega), Bool.true_and]
  cases h39 : decide (1 ≤ m.co)
  · rw [Bool.false_and]
    exact refRight_7_12 w hn6 hn7 hk hc hs h32 h33 z35 z36 (show n6 = 0 by omega) (show n7 = 0 by omega) h39
  rw [Bool.true_and]
  exact refRight_7_13 w hn6 hn7 hk hc hs h32 h33 z35 z36 (show n6 = 0 by omega) (show n7 = 0 by omega) h39

set_option maxRecDepth 10000 in
theorem refRight_none (m : Msg) (T : Option Addr) (tc : Nat) (S : Option Addr) (sc : Nat) (w : World) (hk : m.kd < 1 ∨ 7 < m.kd) :
    Calls Tryd.prog 27 #[.agg (kcells m T tc S sc).toArray] w fun e w' => e = .returned (.bool (okK m)) ∧ w.grownBy w' none := by
  have HW := Lib.hid (grown_alloc w (.cells (kcells m T tc S sc).toArray 26) none)
  have q0 := (CB.new w 26 (kcells m T tc S sc)).at_ (i := 0) (v := .int .i64 m.kd) rfl
  have ht : tagsK m.kd = [] := by
    unfold tagsK
    repeat rw [if_neg (by omega)]
  have hok : okK m = false := by rw [okK_all, ht]; rfl
  rw [hok]
  clear ht hok
  by_cases h1 : m.kd < 1
  · have d1 : decide (m.kd < 1) = true := decide_eq_true h1
    clear hk h1
    go_enter Tryd.func27, Tryd.ntmps27
    go_wp2
    go_ret
    exact ⟨rfl, HW.out⟩
  · have d1 : decide (m.kd < 1) = false := decide_eq_false h1
    have d2 : decide (7 < m.kd) = true := decide_eq_true (by omega)
    clear hk h1
    go_enter Tryd.func27, Tryd.ntmps27
    go_wp2
    go_ret
    exact ⟨rfl, HW.out⟩
theorem refRight_any (m : Msg) (T : Option Addr) (tc : Nat) (S : Option Addr) (sc : Nat) (w : World) (h1 : I64k m.en) (h2 : I64k m.fl) (h3 : I64k m.co) (hc : m.c.size ≤ 10000) (hs : m.s.size ≤ 10000) :
    Calls Tryd.prog 27 #[.agg (kcells m T tc S sc).toArray] w fun e w' => e = .returned (.bool (okK m)) ∧ w.grownBy w' none := by
  by_cases h : m.kd < 1 ∨ 7 < m.kd
  · exact refRight_none m T tc S sc w h
  · rcases (show m.kd = 1 ∨ m.kd = 2 ∨ m.kd = 3 ∨ m.kd = 4 ∨ m.kd = 5 ∨ m.kd = 6 ∨ m.kd = 7 by omega) with h | h | h | h | h | h | h
    · exact refRight_1 m T tc S sc w h h1 h2 h3 hc hs
    · exact refRight_2 m T tc S sc w h h1 h2 h3 hc hs
    · exact refRight_3 m T tc S sc w h h1 h2 h3 hc hs
    · exact refRight_4 m T tc S sc w h h1 h2 h3 hc hs
    · exact refRight_5 m T tc S sc w h h1 h2 h3 hc hs
    · exact refRight_6 m T tc S sc w h h1 h2 h3 hc hs
    · exact refRight_7 m T tc S sc w h h1 h2 h3 hc hs
end Go.Proofs.YtnfmbgmncdodkaaDoor
