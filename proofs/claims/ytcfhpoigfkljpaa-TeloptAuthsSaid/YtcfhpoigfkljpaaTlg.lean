/- The walks of Write: the program's, the document's (on). -/
import Derived.Test.YtcfhpoigfkljpaaTlf
namespace Go.Proofs.Ytcfhpoigfkljpaa
open Go.ChangeShapes Go.WideShapes Go.RowKit
set_option linter.unusedVariables false

theorem isOption_any (x : Int) (w : World) : Calls Try.prog 31 #[.int .i64 x] w fun e w' => e = .returned (.bool (decide (0 ≤ x) && decide (x ≤ 255))) ∧ w' = w := by
  by_cases h1 : 0 ≤ x
  · by_cases h2 : x ≤ 255
    · go_enter Try.func31, Try.ntmps31
      go_wp2
      go_ret
      exact ⟨by rw [decide_eq_true h1, decide_eq_true h2]; rfl, rfl⟩
    · go_enter Try.func31, Try.ntmps31
      go_wp2
      go_ret
      simp [h2]
  · go_enter Try.func31, Try.ntmps31
    go_wp2
    go_ret
    exact ⟨by rw [decide_eq_false (show ¬ 0 ≤ x by omega)]; rfl, rfl⟩
theorem bc3 {x y z : Int} (a b c : UInt8) (hx : x = (a.toNat : Int)) (hy : y = (b.toNat : Int)) (hz : z = (c.toNat : Int)) : #[Value.int .u8 x, .int .u8 y, .int .u8 z] = (bcells [a, b, c]).toArray := by
  subst hx hy hz
  rfl
section
variable {w : World} {base : Nat}
/-- What fault comes to. -/
def FtR (w w' : World) (t : Tl) (e : Ending) : Prop := e = .returned (.int .i64 (wrE t)) ∧ w.grownBy w' none
set_option maxHeartbeats 1000000 in
theorem fault_2o (w : World) (v o : Int) (d : List UInt8) (A : Option Addr) (n cap : Nat) (hn : d.length = n) (ho : ¬ (0 ≤ o ∧ o ≤ 255)) :
    Calls Try.prog 22 #[.agg #[.int .i64 2, .int .i64 v, .int .i64 o, .slice A n cap]] w fun e w' => FtR w w' ⟨2, v, o, d⟩ e := by
  have hW : wrE ⟨2, v, o, d⟩ = 1 := by
    unfold wrE
    simp only
    rw [if_pos (by omega)]
  unfold FtR
  rw [hW]
  clear hW
  have hob : (decide (0 ≤ o) && decide (o ≤ 255)) = false := by rw [Bool.and_eq_false_iff, decide_eq_false_iff_not, decide_eq_false_iff_not]; omega
  clear hn ho
  go_enter Try.func22, Try.ntmps22
  go_wp2_with (go_at_call 31; refine (isOption_any o _).mono ?_; rw [hob]; rintro e wv ⟨rfl, rfl⟩)
  go_ret
  exact ⟨rfl, grown_alloc _ _ _⟩
set_option maxHeartbeats 1000000 in
theorem fault_2v (w : World) (v o : Int) (d : List UInt8) (A : Option Addr) (n cap : Nat) (hn : d.length = n) (ho : 0 ≤ o ∧ o ≤ 255) (hv : ¬ (251 ≤ v ∧ v ≤ 254)) :
    Calls Try.prog 22 #[.agg #[.int .i64 2, .int .i64 v, .int .i64 o, .slice A n cap]] w fun e w' => FtR w w' ⟨2, v, o, d⟩ e := by
  have hW : wrE ⟨2, v, o, d⟩ = 1 := by
    unfold wrE
    simp only
    rw [if_pos (.inr (.inr (.inr ⟨trivial, by omega⟩)))]
  unfold FtR
  rw [hW]
  clear hW
  have hob : (decide (0 ≤ o) && decide (o ≤ 255)) = true := by simp; omega
  have hvb : (decide (251 ≤ v) && decide (v ≤ 254)) = false := by rw [Bool.and_eq_false_iff, decide_eq_false_iff_not, decide_eq_false_iff_not]; omega
  clear hn ho hv
  go_enter Try.func22, Try.ntmps22
  go_wp2_with (first
    | (go_at_call 31; refine (isOption_any o _).mono ?_; rw [hob]; rintro e wv ⟨rfl, rfl⟩)
    | (go_at_call 32; refine (isVerb_any v _).mono ?_; rw [hvb]; rintro e wu ⟨rfl, rfl⟩))
  go_ret
  exact ⟨rfl, grown_alloc _ _ _⟩
set_option maxHeartbeats 1000000 in
theorem fault_2 (w : World) (v o : Int) (d : List UInt8) (A : Option Addr) (n cap : Nat) (hn : d.length = n) (ho : 0 ≤ o ∧ o ≤ 255) (hv : 251 ≤ v ∧ v ≤ 254) :
    Calls Try.prog 22 #[.agg #[.int .i64 2, .int .i64 v, .int .i64 o, .slice A n cap]] w fun e w' => FtR w w' ⟨2, v, o, d⟩ e := by
  have hW : wrE ⟨2, v, o, d⟩ = 0 := by
    unfold wrE
    simp only
    rw [if_neg (by omega), if_neg (by simp)]
  unfold FtR
  rw [hW]
  clear hW
  have hob : (decide (0 ≤ o) && decide (o ≤ 255)) = true := by simp; omega
  have hvb : (decide (251 ≤ v) && decide (v ≤ 254)) = true := by simp; omega
  clear hn ho hv
  go_enter Try.func22, Try.ntmps22
  go_wp2_with (first
    | (go_at_call 31; refine (isOption_any o _).mono ?_; rw [hob]; rintro e wv ⟨rfl, rfl⟩)
    | (go_at_call 32; refine (isVerb_any v _).mono ?_; rw [hvb]; rintro e wu ⟨rfl, rfl⟩))
  go_ret
  exact ⟨rfl, grown_alloc _ _ _⟩
set_option maxHeartbeats 1000000 in
theorem fault_3o (w : World) (v o : Int) (d : List UInt8) (A : Option Addr) (n cap : Nat) (hn : d.length = n) (ho : ¬ (0 ≤ o ∧ o ≤ 255)) :
    Calls Try.prog 22 #[.agg #[.int .i64 3, .int .i64 v, .int .i64 o, .slice A n cap]] w fun e w' => FtR w w' ⟨3, v, o, d⟩ e := by
  have hW : wrE ⟨3, v, o, d⟩ = 1 := by
    unfold wrE
    simp only
    rw [if_pos (by omega)]
  unfold FtR
  rw [hW]
  clear hW
  have hob : (decide (0 ≤ o) && decide (o ≤ 255)) = false := by rw [Bool.and_eq_false_iff, decide_eq_false_iff_not, decide_eq_false_iff_not]; omega
  clear hn ho
  go_enter Try.func22, Try.ntmps22
  go_wp2_with (go_at_call 31; refine (isOption_any o _).mono ?_; rw [hob]; rintro e wv ⟨rfl, rfl⟩)
  go_ret
  exact ⟨rfl, grown_alloc _ _ _⟩
set_option maxHeartbeats 1000000 in
theorem fault_3l (w : World) (v o : Int) (d : List UInt8) (A : Option Addr) (n cap : Nat) (hn : d.length = n) (ho : 0 ≤ o ∧ o ≤ 255) (h3 : 3000 < n) :
    Calls Try.prog 22 #[.agg #[.int .i64 3, .int .i64 v, .int .i64 o, .slice A n cap]] w fun e w' => FtR w w' ⟨3, v, o, d⟩ e := by
  have hW : wrE ⟨3, v, o, d⟩ = 23 := by
    unfold wrE
    simp only
    rw [if_neg (by omega), if_pos (by rw [hn]; omega)]
  unfold FtR
  rw [hW]
  clear hW
  have hob : (decide (0 ≤ o) && decide (o ≤ 255)) = true := by simp; omega
  have hl : (3000 : Int) < (n : Int) := by omega
  clear hn ho h3
  go_enter Try.func22, Try.ntmps22
  go_wp2_with (go_at_call 31; refine (isOption_any o _).mono ?_; rw [hob]; rintro e wv ⟨rfl, rfl⟩)
  go_ret
  exact ⟨rfl, grown_alloc _ _ _⟩
set_option maxHeartbeats 1000000 in
theorem fault_3 (w : World) (v o : Int) (d : List UInt8) (A : Option Addr) (n cap : Nat) (hn : d.length = n) (ho : 0 ≤ o ∧ o ≤ 255) (h3 : ¬ 3000 < n) :
    Calls Try.prog 22 #[.agg #[.int .i64 3, .int .i64 v, .int .i64 o, .slice A n cap]] w fun e w' => FtR w w' ⟨3, v, o, d⟩ e := by
  have hW : wrE ⟨3, v, o, d⟩ = 0 := by
    unfold wrE
    simp only
    rw [if_neg (by omega), if_neg (by rw [hn]; omega)]
  unfold FtR
  rw [hW]
  clear hW
  have hob : (decide (0 ≤ o) && decide (o ≤ 255)) = true := by simp; omega
  have hl : ¬ (3000 : Int) < (n : Int) := by omega
  clear hn ho h3
  go_enter Try.func22, Try.ntmps22
  go_wp2_with (go_at_call 31; refine (isOption_any o _).mono ?_; rw [hob]; rintro e wv ⟨rfl, rfl⟩)
  go_ret
  exact ⟨rfl, grown_alloc _ _ _⟩
set_option maxHeartbeats 1000000 in
theorem fault_1l (w : World) (v o : Int) (d : List UInt8) (A : Option Addr) (n cap : Nat) (hn : d.length = n) (h3 : 3000 < n) :
    Calls Try.prog 22 #[.agg #[.int .i64 1, .int .i64 v, .int .i64 o, .slice A n cap]] w fun e w' => FtR w w' ⟨1, v, o, d⟩ e := by
  have hW : wrE ⟨1, v, o, d⟩ = 23 := by
    unfold wrE
    simp only
    rw [if_neg (by omega), if_pos (by rw [hn]; omega)]
  unfold FtR
  rw [hW]
  clear hW
  have hl : (3000 : Int) < (n : Int) := by omega
  clear hn h3
  go_enter Try.func22, Try.ntmps22
  go_wp2
  go_ret
  exact ⟨rfl, grown_alloc _ _ _⟩
set_option maxHeartbeats 1000000 in
theorem fault_1 (w : World) (v o : Int) (d : List UInt8) (A : Option Addr) (n cap : Nat) (hn : d.length = n) (h3 : ¬ 3000 < n) :
    Calls Try.prog 22 #[.agg #[.int .i64 1, .int .i64 v, .int .i64 o, .slice A n cap]] w fun e w' => FtR w w' ⟨1, v, o, d⟩ e := by
  have hW : wrE ⟨1, v, o, d⟩ = 0 := by
    unfold wrE
    simp only
    rw [if_neg (by omega), if_neg (by rw [hn]; omega)]
  unfold FtR
  rw [hW]
  clear hW
  have hl : ¬ (3000 : Int) < (n : Int) := by omega
  clear hn h3
  go_enter Try.func22, Try.ntmps22
  go_wp2
  go_ret
  exact ⟨rfl, grown_alloc _ _ _⟩
set_option maxHeartbeats 1000000 in
theorem fault_0 (w : World) (k v o : Int) (d : List UInt8) (A : Option Addr) (n cap : Nat) (hn : d.length = n) (hk : k ≠ 1 ∧ k ≠ 2 ∧ k ≠ 3) :
    Calls Try.prog 22 #[.agg #[.int .i64 k, .int .i64 v, .int .i64 o, .slice A n cap]] w fun e w' => FtR w w' ⟨k, v, o, d⟩ e := by
  have hW : wrE ⟨k, v, o, d⟩ = 1 := by
    unfold wrE
    simp only
    rw [if_pos (by omega)]
  unfold FtR
  rw [hW]
  clear hW
  have e1 : (k == 1) = false := by rw [beq_eq_false_iff_ne]; omega
  have e2 : (k == 2) = false := by rw [beq_eq_false_iff_ne]; omega
  have e3 : (k == 3) = false := by rw [beq_eq_false_iff_ne]; omega
  clear hn hk
  go_enter Try.func22, Try.ntmps22
  go_wp2
  go_ret
  exact ⟨rfl, grown_alloc _ _ _⟩
theorem fault_any (w : World) (t : Tl) (A : Option Addr) (n cap : Nat) (hn : t.data.length = n) :
    Calls Try.prog 22 #[.agg #[.int .i64 t.kind, .int .i64 t.verb, .int .i64 t.opt, .slice A n cap]] w fun e w' => FtR w w' t e := by
  obtain ⟨k, v, o, d⟩ := t
  by_cases k1 : k = 1
  · subst k1
    by_cases h3 : 3000 < n
    · exact fault_1l w v o d A n cap hn h3
    · exact fault_1 w v o d A n cap hn h3
  by_cases k2 : k = 2
  · subst k2
    by_cases ho : 0 ≤ o ∧ o ≤ 255
    · by_cases hv : 251 ≤ v ∧ v ≤ 254
      · exact fault_2 w v o d A n cap hn ho hv
      · exact fault_2v w v o d A n cap hn ho hv
    · exact fault_2o w v o d A n cap hn ho
  by_cases k3 : k = 3
  · subst k3
    by_cases ho : 0 ≤ o ∧ o ≤ 255
    · by_cases h3 : 3000 < n
      · exact fault_3l w v o d A n cap hn ho h3
      · exact fault_3 w v o d A n cap hn ho h3
    · exact fault_3o w v o d A n cap hn ho
  · exact fault_0 w k v o d A n cap hn ⟨k1, k2, k3⟩
set_option maxHeartbeats 2000000 in
theorem write_no (w : World) (k v o : Int) (d : List UInt8) (A : Option Addr) (n cap : Nat) (hn : d.length = n) (hr : RB w w.heap.size A d cap) (hnl : n ≤ 1000000) (he : wrE ⟨k, v, o, d⟩ ≠ 0) :
    Calls Try.prog 9 #[.agg #[.int .i64 k, .int .i64 v, .int .i64 o, .slice A n cap]] w fun e w' => WtR w w' ⟨k, v, o, d⟩ e := by
  have HW := Lib.hid (show wrF ⟨k, v, o, d⟩ = [] by unfold wrF; rw [if_pos he])
  obtain ⟨x, hx⟩ : ∃ x, wrE ⟨k, v, o, d⟩ = x := ⟨_, rfl⟩
  have HR := Lib.hid hr
  have HN := Lib.hid hn
  have HNL := Lib.hid hnl
  have hee : (wrE ⟨k, v, o, d⟩ == 0) = false := by rw [beq_eq_false_iff_ne]; exact he
  have HX := Lib.hid hx
  rw [hx] at hee
  clear hn hr hnl he hx
  clear HR HNL
  go_enter Try.func9, Try.ntmps9
  go_wp2_with (first
    | (go_at_call 22
       obtain ⟨wb, hwb⟩ : ∃ wb, wb = w.alloc (.cells #[.int .i64 k, .int .i64 v, .int .i64 o, .slice A n cap] 24) := ⟨_, rfl⟩
       have GB := Lib.hid (show w.grownBy wb none by rw [hwb]; exact grown_alloc _ _ _)
       have CB0 := Lib.hid (show CB wb w.heap.size 24 [.int .i64 k, .int .i64 v, .int .i64 o, .slice A n cap] by rw [hwb]; exact CB.new _ _ _)
       rw [← hwb]
       clear hwb
       refine (fault_any wb ⟨k, v, o, d⟩ A n cap HN.out).mono ?_
       rintro e w1 ⟨rfl, g1⟩
       rw [HX.out]
       have C1 := Lib.hid (CB0.out.kept g1)
       have c0 : w1.cell? ⟨w.heap.size, 0, none⟩ = some (.int .i64 k) := C1.out.at_ rfl
       have c1 : w1.cell? ⟨w.heap.size, 1, none⟩ = some (.int .i64 v) := C1.out.at_ rfl
       have c2 : w1.cell? ⟨w.heap.size, 2, none⟩ = some (.int .i64 o) := C1.out.at_ rfl
       have c3 : w1.cell? ⟨w.heap.size, 3, none⟩ = some (.slice A n cap) := C1.out.at_ rfl
       have c3a := fun x => cell_alloc c3 x
       have G1 := Lib.hid (grown_trans' GB.out g1)
       clear g1))
  go_ret2
  exact ⟨_, by rw [HX.out]; rfl, by rw [HW.out]; exact OwnB.nil_ _ _ _, G1.out⟩
set_option maxHeartbeats 2000000 in
theorem write_2 (w : World) (v o : Int) (d : List UInt8) (A : Option Addr) (n cap : Nat) (hn : d.length = n) (hr : RB w w.heap.size A d cap) (hnl : n ≤ 1000000) (ho : 0 ≤ o ∧ o ≤ 255) (hv : 251 ≤ v ∧ v ≤ 254) (he : wrE ⟨2, v, o, d⟩ = 0) :
    Calls Try.prog 9 #[.agg #[.int .i64 2, .int .i64 v, .int .i64 o, .slice A n cap]] w fun e w' => WtR w w' ⟨2, v, o, d⟩ e := by
  have HE := Lib.hid he
  have HW := Lib.hid (show wrF ⟨2, v, o, d⟩ = [255, UInt8.ofNat v.toNat, UInt8.ofNat o.toNat] by unfold wrF; rw [if_neg (by rw [he]; simp)]; simp)
  have HR := Lib.hid hr
  have HN := Lib.hid hn
  have HNL := Lib.hid hnl
  have hwo : IntKind.u8.wrap o = o := by simp [IntKind.wrap, IntKind.bits, IntKind.signed]; omega
  have HUO := Lib.hid (u8n ho.1 ho.2)
  have hwv : IntKind.u8.wrap v = v := by simp [IntKind.wrap, IntKind.bits, IntKind.signed]; omega
  have HUV := Lib.hid (u8n (x := v) (by omega) (by omega))
  clear hn hr hnl ho hv he
  go_enter Try.func9, Try.ntmps9
  go_wp2_with (first
    | (go_at_call 22
       obtain ⟨wb, hwb⟩ : ∃ wb, wb = w.alloc (.cells #[.int .i64 2, .int .i64 v, .int .i64 o, .slice A n cap] 24) := ⟨_, rfl⟩
       have GB := Lib.hid (show w.grownBy wb none by rw [hwb]; exact grown_alloc _ _ _)
       have CB0 := Lib.hid (show CB wb w.heap.size 24 [.int .i64 2, .int .i64 v, .int .i64 o, .slice A n cap] by rw [hwb]; exact CB.new _ _ _)
       rw [← hwb]
       clear hwb
       refine (fault_any wb ⟨2, v, o, d⟩ A n cap HN.out).mono ?_
       rintro e w1 ⟨rfl, g1⟩
       rw [HE.out]
       have C1 := Lib.hid (CB0.out.kept g1)
       have c0 : w1.cell? ⟨w.heap.size, 0, none⟩ = some (.int .i64 2) := C1.out.at_ rfl
       have c1 : w1.cell? ⟨w.heap.size, 1, none⟩ = some (.int .i64 v) := C1.out.at_ rfl
       have c2 : w1.cell? ⟨w.heap.size, 2, none⟩ = some (.int .i64 o) := C1.out.at_ rfl
       have c3 : w1.cell? ⟨w.heap.size, 3, none⟩ = some (.slice A n cap) := C1.out.at_ rfl
       have c3a := fun x => cell_alloc c3 x
       have G1 := Lib.hid (grown_trans' GB.out g1)
       clear g1))
  go_ret2
  exact ⟨_, by rw [HE.out]; rfl, by rw [HW.out]; exact OwnB.newN _ _ _ [255, UInt8.ofNat v.toNat, UInt8.ofNat o.toNat] _ (bc3 _ _ _ rfl HUV.out.symm HUO.out.symm) G1.out.size (by simp [maxLen]), grown_trans' G1.out (grown_alloc _ _ _)⟩
set_option maxHeartbeats 2000000 in
theorem write_3 (w : World) (v o : Int) (d : List UInt8) (A : Option Addr) (n cap : Nat) (hn : d.length = n) (hr : RB w w.heap.size A d cap) (hnl : n ≤ 1000000) (ho : 0 ≤ o ∧ o ≤ 255) (he : wrE ⟨3, v, o, d⟩ = 0) :
    Calls Try.prog 9 #[.agg #[.int .i64 3, .int .i64 v, .int .i64 o, .slice A n cap]] w fun e w' => WtR w w' ⟨3, v, o, d⟩ e := by
  have HE := Lib.hid he
  have HW := Lib.hid (show wrF ⟨3, v, o, d⟩ = [255, 250, UInt8.ofNat o.toNat] ++ escF d ++ [255, 240] by unfold wrF; rw [if_neg (by rw [he]; simp)]; simp)
  have HR := Lib.hid hr
  have HN := Lib.hid hn
  have HNL := Lib.hid hnl
  have hwo : IntKind.u8.wrap o = o := by simp [IntKind.wrap, IntKind.bits, IntKind.signed]; omega
  have HUO := Lib.hid (u8n ho.1 ho.2)
  clear hn hr hnl ho he
  go_enter Try.func9, Try.ntmps9
  go_wp2_with (first
    | (go_at_call 22
       obtain ⟨wb, hwb⟩ : ∃ wb, wb = w.alloc (.cells #[.int .i64 3, .int .i64 v, .int .i64 o, .slice A n cap] 24) := ⟨_, rfl⟩
       have GB := Lib.hid (show w.grownBy wb none by rw [hwb]; exact grown_alloc _ _ _)
       have CB0 := Lib.hid (show CB wb w.heap.size 24 [.int .i64 3, .int .i64 v, .int .i64 o, .slice A n cap] by rw [hwb]; exact CB.new _ _ _)
       rw [← hwb]
       clear hwb
       refine (fault_any wb ⟨3, v, o, d⟩ A n cap HN.out).mono ?_
       rintro e w1 ⟨rfl, g1⟩
       rw [HE.out]
       have C1 := Lib.hid (CB0.out.kept g1)
       have c0 : w1.cell? ⟨w.heap.size, 0, none⟩ = some (.int .i64 3) := C1.out.at_ rfl
       have c1 : w1.cell? ⟨w.heap.size, 1, none⟩ = some (.int .i64 v) := C1.out.at_ rfl
       have c2 : w1.cell? ⟨w.heap.size, 2, none⟩ = some (.int .i64 o) := C1.out.at_ rfl
       have c3 : w1.cell? ⟨w.heap.size, 3, none⟩ = some (.slice A n cap) := C1.out.at_ rfl
       have c3a := fun x => cell_alloc c3 x
       have G1 := Lib.hid (grown_trans' GB.out g1)
       clear g1)
    | (go_at_call 23
       obtain ⟨wl, hwl⟩ : ∃ wl, wl = w1.alloc (.cells #[.int .u8 255, .int .u8 250, .int .u8 o] 5) := ⟨_, rfl⟩
       have OL := Lib.hid (show OwnB wl w.heap.size 5 (.slice (some ⟨w1.heap.size, 0, none⟩) 3 3) [255, 250, UInt8.ofNat o.toNat] by rw [hwl]; exact OwnB.newN _ _ _ [255, 250, UInt8.ofNat o.toNat] _ (bc3 _ _ _ rfl rfl HUO.out.symm) G1.out.size (by simp [maxLen]))
       have GL := Lib.hid (show w1.grownBy wl none by rw [hwl]; exact grown_alloc _ _ _)
       rw [← hwl]
       clear hwl
       refine (appendData_any OL.out (Nat.le_trans G1.out.size GL.out.size) A d n cap HN.out (((HR.out.below (below_of_none (grown_trans' G1.out GL.out)))).more (grown_trans' G1.out GL.out).size) (fun a ha hl e => by have := HR.out.blk a ha hl; simp [Value.ownBlock] at e; have := G1.out.size; omega) (by simp) HNL.out).mono ?_
       rintro e w2 ⟨v2, rfl, o2, m2, n2⟩
       have O2 := Lib.hid o2
       have G2 := Lib.hid (show w.grownBy w2 none from ⟨m2.os.trans (grown_trans' G1.out GL.out).os, m2.tape.trans (grown_trans' G1.out GL.out).tape, m2.output.trans (grown_trans' G1.out GL.out).output, Nat.le_trans (grown_trans' G1.out GL.out).size m2.size, fun z hz hne => (m2.block z (Nat.lt_of_lt_of_le hz (grown_trans' G1.out GL.out).size) (fun e => by simp [Value.ownBlock] at e; have := G1.out.size; omega)).trans ((grown_trans' G1.out GL.out).block z hz hne)⟩)
       clear o2 m2 n2)
    | (at_builtin
       refine wpList_appB byteT rfl (.tmp 31) (.tmp 32) rfl (OwnB.none_ O2.out (grown_alloc _ _ none)) (rb2 _ _ 255 240 _ _ rfl rfl) (by first | rfl | go_simp) (by first | rfl | go_simp) (by have := escF_length d; have := HN.out; have := HNL.out; simp only [List.length_append, List.length_cons, List.length_nil]; omega) (by rw [World.size_alloc]; have := G2.out.size; omega) ?_
       intro v3 w3 o3 g3 _ a3
       have O3 := Lib.hid o3
       have G3 := Lib.hid (grown_row (grown_trans' G2.out (grown_alloc _ _ none)) g3 (fun z hz => (O2.out.lt z hz).1))
       clear o3 g3 a3))
  go_ret2
  exact ⟨_, by rw [HE.out]; rfl, by rw [HW.out]; exact O3.out, G3.out⟩
set_option maxHeartbeats 2000000 in
theorem write_1 (w : World) (v o : Int) (d : List UInt8) (A : Option Addr) (n cap : Nat) (hn : d.length = n) (hr : RB w w.heap.size A d cap) (hnl : n ≤ 1000000) (he : wrE ⟨1, v, o, d⟩ = 0) :
    Calls Try.prog 9 #[.agg #[.int .i64 1, .int .i64 v, .int .i64 o, .slice A n cap]] w fun e w' => WtR w w' ⟨1, v, o, d⟩ e := by
  have HE := Lib.hid he
  have HW := Lib.hid (show wrF ⟨1, v, o, d⟩ = escF d by unfold wrF; rw [if_neg (by rw [he]; simp)]; simp)
  have HR := Lib.hid hr
  have HN := Lib.hid hn
  have HNL := Lib.hid hnl
  clear hn hr hnl he
  go_enter Try.func9, Try.ntmps9
  go_wp2_with (first
    | (go_at_call 22
       obtain ⟨wb, hwb⟩ : ∃ wb, wb = w.alloc (.cells #[.int .i64 1, .int .i64 v, .int .i64 o, .slice A n cap] 24) := ⟨_, rfl⟩
       have GB := Lib.hid (show w.grownBy wb none by rw [hwb]; exact grown_alloc _ _ _)
       have CB0 := Lib.hid (show CB wb w.heap.size 24 [.int .i64 1, .int .i64 v, .int .i64 o, .slice A n cap] by rw [hwb]; exact CB.new _ _ _)
       rw [← hwb]
       clear hwb
       refine (fault_any wb ⟨1, v, o, d⟩ A n cap HN.out).mono ?_
       rintro e w1 ⟨rfl, g1⟩
       rw [HE.out]
       have C1 := Lib.hid (CB0.out.kept g1)
       have c0 : w1.cell? ⟨w.heap.size, 0, none⟩ = some (.int .i64 1) := C1.out.at_ rfl
       have c1 : w1.cell? ⟨w.heap.size, 1, none⟩ = some (.int .i64 v) := C1.out.at_ rfl
       have c2 : w1.cell? ⟨w.heap.size, 2, none⟩ = some (.int .i64 o) := C1.out.at_ rfl
       have c3 : w1.cell? ⟨w.heap.size, 3, none⟩ = some (.slice A n cap) := C1.out.at_ rfl
       have c3a := fun x => cell_alloc c3 x
       have G1 := Lib.hid (grown_trans' GB.out g1)
       clear g1)
    | (go_at_call 23
       refine (appendData_any (OwnB.nil_ _ w.heap.size _) G1.out.size A d n cap HN.out ((HR.out.below (below_of_none G1.out)).more G1.out.size) (fun a _ _ e => by simp [Value.ownBlock] at e) (by simp) HNL.out).mono ?_
       rintro e w2 ⟨v2, rfl, o2, m2, n2⟩
       rw [List.nil_append] at o2
       have O2 := Lib.hid o2
       have G2 := Lib.hid (show w.grownBy w2 none from ⟨m2.os.trans G1.out.os, m2.tape.trans G1.out.tape, m2.output.trans G1.out.output, Nat.le_trans G1.out.size m2.size, fun z hz hne => (m2.block z (Nat.lt_of_lt_of_le hz G1.out.size) (fun e => by simp [Value.ownBlock] at e)).trans (G1.out.block z hz hne)⟩)
       clear o2 m2 n2))
  go_ret2
  exact ⟨_, by rw [HE.out]; rfl, by rw [HW.out]; exact O2.out, G2.out⟩
theorem wrE_ok {t : Tl} (h : wrE t = 0) : (t.kind = 1 ∨ (t.kind = 2 ∧ (0 ≤ t.opt ∧ t.opt ≤ 255) ∧ 251 ≤ t.verb ∧ t.verb ≤ 254) ∨ (t.kind = 3 ∧ 0 ≤ t.opt ∧ t.opt ≤ 255)) ∧ (t.kind ≠ 2 → t.data.length ≤ 3000) := by
  unfold wrE at h
  split at h
  · exact absurd h (by decide)
  · split at h
    · exact absurd h (by decide)
    · rename_i h1 h2
      exact ⟨by omega, fun hk => by have h3 : ¬ 3000 < t.data.length := fun e => h2 ⟨hk, e⟩; omega⟩
theorem write_any (w : World) (t : Tl) (A : Option Addr) (n cap : Nat) (hn : t.data.length = n) (hr : RB w w.heap.size A t.data cap) (hnl : n ≤ 1000000) :
    Calls Try.prog 9 #[.agg #[.int .i64 t.kind, .int .i64 t.verb, .int .i64 t.opt, .slice A n cap]] w fun e w' => WtR w w' t e := by
  by_cases he : wrE t = 0
  · obtain ⟨hk, -⟩ := wrE_ok he
    obtain ⟨k, v, o, d⟩ := t
    rcases hk with rfl | ⟨rfl, ho, hv⟩ | ⟨rfl, ho⟩
    · exact write_1 w v o d A n cap hn hr hnl he
    · exact write_2 w v o d A n cap hn hr hnl ho hv he
    · exact write_3 w v o d A n cap hn hr hnl ho he
  · obtain ⟨k, v, o, d⟩ := t
    exact write_no w k v o d A n cap hn hr hnl he
end
end Go.Proofs.Ytcfhpoigfkljpaa
