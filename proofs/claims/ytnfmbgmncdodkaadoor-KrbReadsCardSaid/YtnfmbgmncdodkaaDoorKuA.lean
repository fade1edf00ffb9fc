/- The walk of the document's Right, messages of kind 1 (krb). -/
import Derived.Test.YtnfmbgmncdodkaaDoorKru
namespace Go.Proofs.YtnfmbgmncdodkaaDoor
open Go.RowKit
variable {m : Msg} {T : Option Addr} {tc : Nat} {S : Option Addr} {sc : Nat}
set_option maxRecDepth 10000 in
set_option maxHeartbeats 1000000 in
theorem refRight_1_0 (w : World) {n6 n7 : Nat} (hn6 : m.t.length = n6) (hn7 : m.sl.length = n7) (hk : m.kd = 1) (hc : m.c.size ≤ 10000) (hs : m.s.size ≤ 10000) (h32 : parses m.c.data.toList = false) :
    Calls Tryd.prog 27 #[.agg (kcells m T tc S sc).toArray] w fun e w' => e = .returned (.bool false) ∧ w.grownBy w' none := by
  have HB := Lib.hid (CB.new w 26 (kcells m T tc S sc))
  have HW := Lib.hid (grown_alloc w (.cells (kcells m T tc S sc).toArray 26) none)
  have HLC := Lib.hid (show m.c.data.toList.length ≤ 10000 from hc)
  have HLS := Lib.hid (show m.s.data.toList.length ≤ 10000 from hs)
  have HKD := Lib.hid hk
  have HN6 := Lib.hid hn6
  have HN7 := Lib.hid hn7
  have Hh32 := Lib.hid h32
  clear hk hc hs hn6 hn7 h32
  have q0 := HB.out.at_ (i := 0) (v := .int .i64 1) (by rw [← HKD.out]; rfl); have q1 := HB.out.at_ (i := 1) (v := .string m.c) (by rfl)
  go_enter Tryd.func27, Tryd.ntmps27
  go_wp2_with (first
  | (go_at_call 26; refine (refHas_any _ _ _).mono ?_; rintro r wn ⟨rfl, gn⟩; (first | rw [show (tagsK 1).contains 32 = true from by decide]); have HBn := Lib.hid (HB.out.kept gn); have HWn := Lib.hid (grown_trans' HW.out gn); clear gn q0 q1 HB HW; have HB := HBn; have HW := HWn; clear HBn HWn; have q0 := HB.out.at_ (i := 0) (v := .int .i64 1) (by rw [← HKD.out]; rfl); have q1 := HB.out.at_ (i := 1) (v := .string m.c) (by rfl))
  | (go_at_call 38; refine (refNamed_any _ _ rfl _ (by first | exact HLC.out | exact HLS.out)).mono ?_; rintro r wn ⟨rfl, gn⟩; (first | rw [Hh32.out]); have HBn := Lib.hid (HB.out.kept gn); have HWn := Lib.hid (grown_trans' HW.out gn); clear gn q0 q1 HB HW; have HB := HBn; have HW := HWn; clear HBn HWn; have q0 := HB.out.at_ (i := 0) (v := .int .i64 1) (by rw [← HKD.out]; rfl); have q1 := HB.out.at_ (i := 1) (v := .string m.c) (by rfl)))
  go_ret
  exact ⟨rfl, HW.out⟩
set_option maxRecDepth 10000 in
set_option maxHeartbeats 1000000 in
theorem refRight_1_1 (w : World) {n6 n7 : Nat} (hn6 : m.t.length = n6) (hn7 : m.sl.length = n7) (hk : m.kd = 1) (hc : m.c.size ≤ 10000) (hs : m.s.size ≤ 10000) (h32 : parses m.c.data.toList = true) (h33 : parses m.s.data.toList = false) :
    Calls Tryd.prog 27 #[.agg (kcells m T tc S sc).toArray] w fun e w' => e = .returned (.bool false) ∧ w.grownBy w' none := by
  have HB := Lib.hid (CB.new w 26 (kcells m T tc S sc))
  have HW := Lib.hid (grown_alloc w (.cells (kcells m T tc S sc).toArray 26) none)
  have HLC := Lib.hid (show m.c.data.toList.length ≤ 10000 from hc)
  have HLS := Lib.hid (show m.s.data.toList.length ≤ 10000 from hs)
  have HKD := Lib.hid hk
  have HN6 := Lib.hid hn6
  have HN7 := Lib.hid hn7
  have Hh32 := Lib.hid h32
  have Hh33 := Lib.hid h33
  clear hk hc hs hn6 hn7 h32 h33
  have q0 := HB.out.at_ (i := 0) (v := .int .i64 1) (by rw [← HKD.out]; rfl); have q1 := HB.out.at_ (i := 1) (v := .string m.c) (by rfl); have q2 := HB.out.at_ (i := 2) (v := .string m.s) (by rfl)
  go_enter Tryd.func27, Tryd.ntmps27
  go_wp2_with (first
  | (go_at_call 26; refine (refHas_any _ _ _).mono ?_; rintro r wn ⟨rfl, gn⟩; (first | rw [show (tagsK 1).contains 32 = true from by decide] | rw [show (tagsK 1).contains 33 = true from by decide]); have HBn := Lib.hid (HB.out.kept gn); have HWn := Lib.hid (grown_trans' HW.out gn); clear gn q0 q1 q2 HB HW; have HB := HBn; have HW := HWn; clear HBn HWn; have q0 := HB.out.at_ (i := 0) (v := .int .i64 1) (by rw [← HKD.out]; rfl); have q1 := HB.out.at_ (i := 1) (v := .string m.c) (by rfl); have q2 := HB.out.at_ (i := 2) (v := .string m.s) (by rfl))
  | (go_at_call 38; refine (refNamed_any _ _ rfl _ (by first | exact HLC.out | exact HLS.out)).mono ?_; rintro r wn ⟨rfl, gn⟩; (first | rw [Hh32.out] | rw [Hh33.out]); have HBn := Lib.hid (HB.out.kept gn); have HWn := Lib.hid (grown_trans' HW.out gn); clear gn q0 q1 q2 HB HW; have HB := HBn; have HW := HWn; clear HBn HWn; have q0 := HB.out.at_ (i := 0) (v := .int .i64 1) (by rw [← HKD.out]; rfl); have q1 := HB.out.at_ (i := 1) (v := .string m.c) (by rfl); have q2 := HB.out.at_ (i := 2) (v := .string m.s) (by rfl)))
  go_ret
  exact ⟨rfl, HW.out⟩
set_option maxRecDepth 10000 in
set_option maxHeartbeats 1000000 in
theorem refRight_1_2 (w : World) {n6 n7 : Nat} (hn6 : m.t.length = n6) (hn7 : m.sl.length = n7) (hk : m.kd = 1) (hc : m.c.size ≤ 10000) (hs : m.s.size ≤ 10000) (h32 : parses m.c.data.toList = true) (h33 : parses m.s.data.toList = true) (h35 : decide (m.en < 0) = true) :
    Calls Tryd.prog 27 #[.agg (kcells m T tc S sc).toArray] w fun e w' => e = .returned (.bool false) ∧ w.grownBy w' none := by
  have HB := Lib.hid (CB.new w 26 (kcells m T tc S sc))
  have HW := Lib.hid (grown_alloc w (.cells (kcells m T tc S sc).toArray 26) none)
  have HLC := Lib.hid (show m.c.data.toList.length ≤ 10000 from hc)
  have HLS := Lib.hid (show m.s.data.toList.length ≤ 10000 from hs)
  have HKD := Lib.hid hk
  have HN6 := Lib.hid hn6
  have HN7 := Lib.hid hn7
  have Hh32 := Lib.hid h32
  have Hh33 := Lib.hid h33
  clear hk hc hs hn6 hn7 h32 h33
  have q0 := HB.out.at_ (i := 0) (v := .int .i64 1) (by rw [← HKD.out]; rfl); have q1 := HB.out.at_ (i := 1) (v := .string m.c) (by rfl); have q2 := HB.out.at_ (i := 2) (v := .string m.s) (by rfl); have q4 := HB.out.at_ (i := 4) (v := .int .i64 m.en) (by rfl)
  go_enter Tryd.func27, Tryd.ntmps27
  go_wp2_with (first
  | (go_at_call 26; refine (refHas_any _ _ _).mono ?_; rintro r wn ⟨rfl, gn⟩; (first | rw [show (tagsK 1).contains 32 = true from by decide] | rw [show (tagsK 1).contains 33 = true from by decide] | rw [show (tagsK 1).contains 35 = true from by decide]); have HBn := Lib.hid (HB.out.kept gn); have HWn := Lib.hid (grown_trans' HW.out gn); clear gn q0 q1 q2 q4 HB HW; have HB := HBn; have HW := HWn; clear HBn HWn; have q0 := HB.out.at_ (i := 0) (v := .int .i64 1) (by rw [← HKD.out]; rfl); have q1 := HB.out.at_ (i := 1) (v := .string m.c) (by rfl); have q2 := HB.out.at_ (i := 2) (v := .string m.s) (by rfl); have q4 := HB.out.at_ (i := 4) (v := .int .i64 m.en) (by rfl))
  | (go_at_call 38; refine (refNamed_any _ _ rfl _ (by first | exact HLC.out | exact HLS.out)).mono ?_; rintro r wn ⟨rfl, gn⟩; (first | rw [Hh32.out] | rw [Hh33.out]); have HBn := Lib.hid (HB.out.kept gn); have HWn := Lib.hid (grown_trans' HW.out gn); clear gn q0 q1 q2 q4 HB HW; have HB := HBn; have HW := HWn; clear HBn HWn; have q0 := HB.out.at_ (i := 0) (v := .int .i64 1) (by rw [← HKD.out]; rfl); have q1 := HB.out.at_ (i := 1) (v := .string m.c) (by rfl); have q2 := HB.out.at_ (i := 2) (v := .string m.s) (by rfl); have q4 := HB.out.at_ (i := 4) (v := .int .i64 m.en) (by rfl)))
  go_ret
  exact ⟨rfl, HW.out⟩
set_option maxRecDepth 10000 in
set_option maxHeartbeats 1000000 in
theorem refRight_1_3 (w : World) {n6 n7 : Nat} (hn6 : m.t.length = n6) (hn7 : m.sl.length = n7) (hk : m.kd = 1) (hc : m.c.size ≤ 10000) (hs : m.s.size ≤ 10000) (h32 : parses m.c.data.toList = true) (h33 : parses m.s.data.toList = true) (h35 : decide (m.en < 0) = false) (g35 : decide (1099511627776 < m.en) = true) :
    Calls Tryd.prog 27 #[.agg (kcells m T tc S sc).toArray] w fun e w' => e = .returned (.bool false) ∧ w.grownBy w' none := by
  have HB := Lib.hid (CB.new w 26 (kcells m T tc S sc))
  have HW := Lib.hid (grown_alloc w (.cells (kcells m T tc S sc).toArray 26) none)
  have HLC := Lib.hid (show m.c.data.toList.length ≤ 10000 from hc)
  have HLS := Lib.hid (show m.s.data.toList.length ≤ 10000 from hs)
  have HKD := Lib.hid hk
  have HN6 := Lib.hid hn6
  have HN7 := Lib.hid hn7
  have Hh32 := Lib.hid h32
  have Hh33 := Lib.hid h33
  clear hk hc hs hn6 hn7 h32 h33
  have q0 := HB.out.at_ (i := 0) (v := .int .i64 1) (by rw [← HKD.out]; rfl); have q1 := HB.out.at_ (i := 1) (v := .string m.c) (by rfl); have q2 := HB.out.at_ (i := 2) (v := .string m.s) (by rfl); have q4 := HB.out.at_ (i := 4) (v := .int .i64 m.en) (by rfl)
  go_enter Tryd.func27, Tryd.ntmps27
  go_wp2_with (first
  | (go_at_call 26; refine (refHas_any _ _ _).mono ?_; rintro r wn ⟨rfl, gn⟩; (first | rw [show (tagsK 1).contains 32 = true from by decide] | rw [show (tagsK 1).contains 33 = true from by decide] | rw [show (tagsK 1).contains 35 = true from by decide]); have HBn := Lib.hid (HB.out.kept gn); have HWn := Lib.hid (grown_trans' HW.out gn); clear gn q0 q1 q2 q4 HB HW; have HB := HBn; have HW := HWn; clear HBn HWn; have q0 := HB.out.at_ (i := 0) (v := .int .i64 1) (by rw [← HKD.out]; rfl); have q1 := HB.out.at_ (i := 1) (v := .string m.c) (by rfl); have q2 := HB.out.at_ (i := 2) (v := .string m.s) (by rfl); have q4 := HB.out.at_ (i := 4) (v := .int .i64 m.en) (by rfl))
  | (go_at_call 38; refine (refNamed_any _ _ rfl _ (by first | exact HLC.out | exact HLS.out)).mono ?_; rintro r wn ⟨rfl, gn⟩; (first | rw [Hh32.out] | rw [Hh33.out]); have HBn := Lib.hid (HB.out.kept gn); have HWn := Lib.hid (grown_trans' HW.out gn); clear gn q0 q1 q2 q4 HB HW; have HB := HBn; have HW := HWn; clear HBn HWn; have q0 := HB.out.at_ (i := 0) (v := .int .i64 1) (by rw [← HKD.out]; rfl); have q1 := HB.out.at_ (i := 1) (v := .string m.c) (by rfl); have q2 := HB.out.at_ (i := 2) (v := .string m.s) (by rfl); have q4 := HB.out.at_ (i := 4) (v := .int .i64 m.en) (by rfl)))
  go_ret
  exact ⟨rfl, HW.out⟩
set_option maxRecDepth 10000 in
set_option maxHeartbeats 1000000 in
theorem refRight_1_4 (w : World) {n6 n7 : Nat} (hn6 : m.t.length = n6) (hn7 : m.sl.length = n7) (hk : m.kd = 1) (hc : m.c.size ≤ 10000) (hs : m.s.size ≤ 10000) (h32 : parses m.c.data.toList = true) (h33 : parses m.s.data.toList = true) (h35 : decide (m.en < 0) = false) (g35 : decide (1099511627776 < m.en) = false) (h36 : decide (m.fl < 0) = true) :
    Calls Tryd.prog 27 #[.agg (kcells m T tc S sc).toArray] w fun e w' => e = .returned (.bool false) ∧ w.grownBy w' none := by
  have HB := Lib.hid (CB.new w 26 (kcells m T tc S sc))
  have HW := Lib.hid (grown_alloc w (.cells (kcells m T tc S sc).toArray 26) none)
  have HLC := Lib.hid (show m.c.data.toList.length ≤ 10000 from hc)
  have HLS := Lib.hid (show m.s.data.toList.length ≤ 10000 from hs)
  have HKD := Lib.hid hk
  have HN6 := Lib.hid hn6
  have HN7 := Lib.hid hn7
  have Hh32 := Lib.hid h32
  have Hh33 := Lib.hid h33
  clear hk hc hs hn6 hn7 h32 h33
  have q0 := HB.out.at_ (i := 0) (v := .int .i64 1) (by rw [← HKD.out]; rfl); have q1 := HB.out.at_ (i := 1) (v := .string m.c) (by rfl); have q2 := HB.out.at_ (i := 2) (v := .string m.s) (by rfl); have q4 := HB.out.at_ (i := 4) (v := .int .i64 m.en) (by rfl); have q5 := HB.out.at_ (i := 5) (v := .int .i64 m.fl) (by rfl)
  go_enter Tryd.func27, Tryd.ntmps27
  go_wp2_with (first
  | (go_at_call 26; refine (refHas_any _ _ _).mono ?_; rintro r wn ⟨rfl, gn⟩; (first | rw [show (tagsK 1).contains 32 = true from by decide] | rw [show (tagsK 1).contains 33 = true from by decide] | rw [show (tagsK 1).contains 35 = true from by decide] | rw [show (tagsK 1).contains 36 = true from by decide]); have HBn := Lib.hid (HB.out.kept gn); have HWn := Lib.hid (grown_trans' HW.out gn); clear gn q0 q1 q2 q4 q5 HB HW; have HB := HBn; have HW := HWn; clear HBn HWn; have q0 := HB.out.at_ (i := 0) (v := .int .i64 1) (by rw [← HKD.out]; rfl); have q1 := HB.out.at_ (i := 1) (v := .string m.c) (by rfl); have q2 := HB.out.at_ (i := 2) (v := .string m.s) (by rfl); have q4 := HB.out.at_ (i := 4) (v := .int .i64 m.en) (by rfl); have q5 := HB.out.at_ (i := 5) (v := .int .i64 m.fl) (by rfl))
  | (go_at_call 38; refine (refNamed_any _ _ rfl _ (by first | exact HLC.out | exact HLS.out)).mono ?_; rintro r wn ⟨rfl, gn⟩; (first | rw [Hh32.out] | rw [Hh33.out]); have HBn := Lib.hid (HB.out.kept gn); have HWn := Lib.hid (grown_trans' HW.out gn); clear gn q0 q1 q2 q4 q5 HB HW; have HB := HBn; have HW := HWn; clear HBn HWn; have q0 := HB.out.at_ (i := 0) (v := .int .i64 1) (by rw [← HKD.out]; rfl); have q1 := HB.out.at_ (i := 1) (v := .string m.c) (by rfl); have q2 := HB.out.at_ (i := 2) (v := .string m.s) (by rfl); have q4 := HB.out.at_ (i := 4) (v := .int .i64 m.en) (by rfl); have q5 := HB.out.at_ (i := 5) (v := .int .i64 m.fl) (by rfl)))
  go_ret
  exact ⟨rfl, HW.out⟩
set_option maxRecDepth 10000 in
set_option maxHeartbeats 1000000 in
theorem refRight_1_5 (w : World) {n6 n7 : Nat} (hn6 : m.t.length = n6) (hn7 : m.sl.length = n7) (hk : m.kd = 1) (hc : m.c.size ≤ 10000) (hs : m.s.size ≤ 10000) (h32 : parses m.c.data.toList = true) (h33 : parses m.s.data.toList = true) (h35 : decide (m.en < 0) = false) (g35 : decide (1099511627776 < m.en) = false) (h36 : decide (m.fl < 0) = false) (g36 : decide (3 < m.fl) = true) :
    Calls Tryd.prog 27 #[.agg (kcells m T tc S sc).toArray] w fun e w' => e = .returned (.bool false) ∧ w.grownBy w' none := by
  have HB := Lib.hid (CB.new w 26 (kcells m T tc S sc))
  have HW := Lib.hid (grown_alloc w (.cells (kcells m T tc S sc).toArray 26) none)
  have HLC := Lib.hid (show m.c.data.toList.length ≤ 10000 from hc)
  have HLS := Lib.hid (show m.s.data.toList.length ≤ 10000 from hs)
  have HKD := Lib.hid hk
  have HN6 := Lib.hid hn6
  have HN7 := Lib.hid hn7
  have Hh32 := Lib.hid h32
  have Hh33 := Lib.hid h33
  clear hk hc hs hn6 hn7 h32 h33
  have q0 := HB.out.at_ (i := 0) (v := .int .i64 1) (by rw [← HKD.out]; rfl); have q1 := HB.out.at_ (i := 1) (v := .string m.c) (by rfl); have q2 := HB.out.at_ (i := 2) (v := .string m.s) (by rfl); have q4 := HB.out.at_ (i := 4) (v := .int .i64 m.en) (by rfl); have q5 := HB.out.at_ (i := 5) (v := .int .i64 m.fl) (by rfl)
  go_enter Tryd.func27, Tryd.ntmps27
  go_wp2_with (first
  | (go_at_call 26; refine (refHas_any _ _ _).mono ?_; rintro r wn ⟨rfl, gn⟩; (first | rw [show (tagsK 1).contains 32 = true from by decide] | rw [show (tagsK 1).contains 33 = true from by decide] | rw [show (tagsK 1).contains 35 = true from by decide] | rw [show (tagsK 1).contains 36 = true from by decide]); have HBn := Lib.hid (HB.out.kept gn); have HWn := Lib.hid (grown_trans' HW.out gn); clear gn q0 q1 q2 q4 q5 HB HW; have HB := HBn; have HW := HWn; clear HBn HWn; have q0 := HB.out.at_ (i := 0) (v := .int .i64 1) (by rw [← HKD.out]; rfl); have q1 := HB.out.at_ (i := 1) (v := .string m.c) (by rfl); have q2 := HB.out.at_ (i := 2) (v := .string m.s) (by rfl); have q4 := HB.out.at_ (i := 4) (v := .int .i64 m.en) (by rfl); have q5 := HB.out.at_ (i := 5) (v := .int .i64 m.fl) (by rfl))
  | (go_at_call 38; refine (refNamed_any _ _ rfl _ (by first | exact HLC.out | exact HLS.out)).mono ?_; rintro r wn ⟨rfl, gn⟩; (first | rw [Hh32.out] | rw [Hh33.out]); have HBn := Lib.hid (HB.out.kept gn); have HWn := Lib.hid (grown_trans' HW.out gn); clear gn q0 q1 q2 q4 q5 HB HW; have HB := HBn; have HW := HWn; clear HBn HWn; have q0 := HB.out.at_ (i := 0) (v := .int .i64 1) (by rw [← HKD.out]; rfl); have q1 := HB.out.at_ (i := 1) (v := .string m.c) (by rfl); have q2 := HB.out.at_ (i := 2) (v := .string m.s) (by rfl); have q4 := HB.out.at_ (i := 4) (v := .int .i64 m.en) (by rfl); have q5 := HB.out.at_ (i := 5) (v := .int .i64 m.fl) (by rfl)))
  go_ret
  exact ⟨rfl, HW.out⟩
set_option maxRecDepth 10000 in
set_option maxHeartbeats 1000000 in
theorem refRight_1_6 (w : World) {n6 n7 : Nat} (hn6 : m.t.length = n6) (hn7 : m.sl.length = n7) (hk : m.kd = 1) (hc : m.c.size ≤ 10000) (hs : m.s.size ≤ 10000) (h32 : parses m.c.data.toList = true) (h33 : parses m.s.data.toList = true) (h35 : decide (m.en < 0) = false) (g35 : decide (1099511627776 < m.en) = false) (h36 : decide (m.fl < 0) = false) (g36 : decide (3 < m.fl) = false) (h37 : decide ((3000 : Int) < ((n6 : Nat) : Int)) = true) :
    Calls Tryd.prog 27 #[.agg (kcells m T tc S sc).toArray] w fun e w' => e = .returned (.bool false) ∧ w.grownBy w' none := by
  have HB := Lib.hid (CB.new w 26 (kcells m T tc S sc))
  have HW := Lib.hid (grown_alloc w (.cells (kcells m T tc S sc).toArray 26) none)
  have HLC := Lib.hid (show m.c.data.toList.length ≤ 10000 from hc)
  have HLS := Lib.hid (show m.s.data.toList.length ≤ 10000 from hs)
  have HKD := Lib.hid hk
  have HN6 := Lib.hid hn6
  have HN7 := Lib.hid hn7
  have Hh32 := Lib.hid h32
  have Hh33 := Lib.hid h33
  clear hk hc hs hn6 hn7 h32 h33
  have q0 := HB.out.at_ (i := 0) (v := .int .i64 1) (by rw [← HKD.out]; rfl); have q1 := HB.out.at_ (i := 1) (v := .string m.c) (by rfl); have q2 := HB.out.at_ (i := 2) (v := .string m.s) (by rfl); have q4 := HB.out.at_ (i := 4) (v := .int .i64 m.en) (by rfl); have q5 := HB.out.at_ (i := 5) (v := .int .i64 m.fl) (by rfl); have q6 := HB.out.at_ (i := 6) (v := .slice T n6 tc) (by rw [← HN6.out]; rfl)
  go_enter Tryd.func27, Tryd.ntmps27
  go_wp2_with (first
  | (go_at_call 26; refine (refHas_any _ _ _).mono ?_; rintro r wn ⟨rfl, gn⟩; (first | rw [show (tagsK 1).contains 32 = true from by decide] | rw [show (tagsK 1).contains 33 = true from by decide] | rw [show (tagsK 1).contains 35 = true from by decide] | rw [show (tagsK 1).contains 36 = true from by decide] | rw [show (tagsK 1).contains 37 = false from by decide]); have HBn := Lib.hid (HB.out.kept gn); have HWn := Lib.hid (grown_trans' HW.out gn); clear gn q0 q1 q2 q4 q5 q6 HB HW; have HB := HBn; have HW := HWn; clear HBn HWn; have q0 := HB.out.at_ (i := 0) (v := .int .i64 1) (by rw [← HKD.out]; rfl); have q1 := HB.out.at_ (i := 1) (v := .string m.c) (by rfl); have q2 := HB.out.at_ (i := 2) (v := .string m.s) (by rfl); have q4 := HB.out.at_ (i := 4) (v := .int .i64 m.en) (by rfl); have q5 := HB.out.at_ (i := 5) (v := .int .i64 m.fl) (by rfl); have q6 := HB.out.at_ (i := 6) (v := .slice T n6 tc) (by rw [← HN6.out]; rfl))
  | (go_at_call 38; refine (refNamed_any _ _ rfl _ (by first | exact HLC.out | exact HLS.out)).mono ?_; rintro r wn ⟨rfl, gn⟩; (first | rw [Hh32.out] | rw [Hh33.out]); have HBn := Lib.hid (HB.out.kept gn); have HWn := Lib.hid (grown_trans' HW.out gn); clear gn q0 q1 q2 q4 q5 q6 HB HW; have HB := HBn; have HW := HWn; clear HBn HWn; have q0 := HB.out.at_ (i := 0) (v := .int .i64 1) (by rw [← HKD.out]; rfl); have q1 := HB.out.at_ (i := 1) (v := .string m.c) (by rfl); have q2 := HB.out.at_ (i := 2) (v := .string m.s) (by rfl); have q4 := HB.out.at_ (i := 4) (v := .int .i64 m.en) (by rfl); have q5 := HB.out.at_ (i := 5) (v := .int .i64 m.fl) (by rfl); have q6 := HB.out.at_ (i := 6) (v := .slice T n6 tc) (by rw [← HN6.out]; rfl)))
  go_ret
  exact ⟨rfl, HW.out⟩
set_option maxRecDepth 10000 in
set_option maxHeartbeats 1000000 in
theorem refRight_1_7 (w : World) {n6 n7 : Nat} (hn6 : m.t.length = n6) (hn7 : m.sl.length = n7) (hk : m.kd = 1) (hc : m.c.size ≤ 10000) (hs : m.s.size ≤ 10000) (h32 : parses m.c.data.toList = true) (h33 : parses m.s.data.toList = true) (h35 : decide (m.en < 0) = false) (g35 : decide (1099511627776 < m.en) = false) (h36 : decide (m.fl < 0) = false) (g36 : decide (3 < m.fl) = false) (h37 : decide ((3000 : Int) < ((n6 : Nat) : Int)) = false) (g37 : decide ((0 : Int) < ((n6 : Nat) : Int)) = true) :
    Calls Tryd.prog 27 #[.agg (kcells m T tc S sc).toArray] w fun e w' => e = .returned (.bool false) ∧ w.grownBy w' none := by
  have HB := Lib.hid (CB.new w 26 (kcells m T tc S sc))
  have HW := Lib.hid (grown_alloc w (.cells (kcells m T tc S sc).toArray 26) none)
  have HLC := Lib.hid (show m.c.data.toList.length ≤ 10000 from hc)
  have HLS := Lib.hid (show m.s.data.toList.length ≤ 10000 from hs)
  have HKD := Lib.hid hk
  have HN6 := Lib.hid hn6
  have HN7 := Lib.hid hn7
  have Hh32 := Lib.hid h32
  have Hh33 := Lib.hid h33
  have lg37 : 0 < n6 := by have hq := of_decide_eq_true g37; omega
  have kg37 : decide (0 < n6) = true := decide_eq_true lg37
  clear hk hc hs hn6 hn7 h32 h33
  have q0 := HB.out.at_ (i := 0) (v := .int .i64 1) (by rw [← HKD.out]; rfl); have q1 := HB.out.at_ (i := 1) (v := .string m.c) (by rfl); have q2 := HB.out.at_ (i := 2) (v := .string m.s) (by rfl); have q4 := HB.out.at_ (i := 4) (v := .int .i64 m.en) (by rfl); have q5 := HB.out.at_ (i := 5) (v := .int .i64 m.fl) (by rfl); have q6 := HB.out.at_ (i := 6) (v := .slice T n6 tc) (by rw [← HN6.out]; rfl)
  go_enter Tryd.func27, Tryd.ntmps27
  go_wp2_with (first
  | (go_at_call 26; refine (refHas_any _ _ _).mono ?_; rintro r wn ⟨rfl, gn⟩; (first | rw [show (tagsK 1).contains 32 = true from by decide] | rw [show (tagsK 1).contains 33 = true from by decide] | rw [show (tagsK 1).contains 35 = true from by decide] | rw [show (tagsK 1).contains 36 = true from by decide] | rw [show (tagsK 1).contains 37 = false from by decide]); have HBn := Lib.hid (HB.out.kept gn); have HWn := Lib.hid (grown_trans' HW.out gn); clear gn q0 q1 q2 q4 q5 q6 HB HW; have HB := HBn; have HW := HWn; clear HBn HWn; have q0 := HB.out.at_ (i := 0) (v := .int .i64 1) (by rw [← HKD.out]; rfl); have q1 := HB.out.at_ (i := 1) (v := .string m.c) (by rfl); have q2 := HB.out.at_ (i := 2) (v := .string m.s) (by rfl); have q4 := HB.out.at_ (i := 4) (v := .int .i64 m.en) (by rfl); have q5 := HB.out.at_ (i := 5) (v := .int .i64 m.fl) (by rfl); have q6 := HB.out.at_ (i := 6) (v := .slice T n6 tc) (by rw [← HN6.out]; rfl))
  | (go_at_call 38; refine (refNamed_any _ _ rfl _ (by first | exact HLC.out | exact HLS.out)).mono ?_; rintro r wn ⟨rfl, gn⟩; (first | rw [Hh32.out] | rw [Hh33.out]); have HBn := Lib.hid (HB.out.kept gn); have HWn := Lib.hid (grown_trans' HW.out gn); clear gn q0 q1 q2 q4 q5 q6 HB HW; have HB := HBn; have HW := HWn; clear HBn HWn; have q0 := HB.out.at_ (i := 0) (v := .int .i64 1) (by rw [← HKD.out]; rfl); have q1 := HB.out.at_ (i := 1) (v := .string m.c) (by rfl); have q2 := HB.out.at_ (i := 2) (v := .string m.s) (by rfl); have q4 := HB.out.at_ (i := 4) (v := .int .i64 m.en) (by rfl); have q5 := HB.out.at_ (i := 5) (v := .int .i64 m.fl) (by rfl); have q6 := HB.out.at_ (i := 6) (v := .slice T n6 tc) (by rw [← HN6.out]; rfl)))
  go_ret
  exact ⟨rfl, HW.out⟩
set_option maxRecDepth 10000 in
set_option maxHeartbeats 1000000 in
theorem refRight_1_8 (w : World) {n6 n7 : Nat} (hn6 : m.t.length = n6) (hn7 : m.sl.length = n7) (hk : m.kd = 1) (hc : m.c.size ≤ 10000) (hs : m.s.size ≤ 10000) (h32 : parses m.c.data.toList = true) (h33 : parses m.s.data.toList = true) (h35 : decide (m.en < 0) = false) (g35 : decide (1099511627776 < m.en) = false) (h36 : decide (m.fl < 0) = false) (g36 : decide (3 < m.fl) = false) (z37 : n6 = 0) (h38 : decide ((3000 : Int) < ((n7 : Nat) : Int)) = true) :
    Calls Tryd.prog 27 #[.agg (kcells m T tc S sc).toArray] w fun e w' => e = .returned (.bool false) ∧ w.grownBy w' none := by
  have HB := Lib.hid (CB.new w 26 (kcells m T tc S sc))
  have HW := Lib.hid (grown_alloc w (.cells (kcells m T tc S sc).toArray 26) none)
  have HLC := Lib.hid (show m.c.data.toList.length ≤ 10000 from hc)
  have HLS := Lib.hid (show m.s.data.toList.length ≤ 10000 from hs)
  have HKD := Lib.hid hk
  have HN6 := Lib.hid hn6
  have HN7 := Lib.hid hn7
  have Hh32 := Lib.hid h32
  have Hh33 := Lib.hid h33
  have Hz37 := Lib.hid (show m.t.length = 0 from hn6.trans z37)
  clear hk hc hs hn6 hn7 h32 h33 z37
  have q0 := HB.out.at_ (i := 0) (v := .int .i64 1) (by rw [← HKD.out]; rfl); have q1 := HB.out.at_ (i := 1) (v := .string m.c) (by rfl); have q2 := HB.out.at_ (i := 2) (v := .string m.s) (by rfl); have q4 := HB.out.at_ (i := 4) (v := .int .i64 m.en) (by rfl); have q5 := HB.out.at_ (i := 5) (v := .int .i64 m.fl) (by rfl); have q6 := HB.out.at_ (i := 6) (v := .slice T 0 tc) (by rw [← Hz37.out]; rfl); have q7 := HB.out.at_ (i := 7) (v := .slice S n7 sc) (by rw [← HN7.out]; rfl)
  go_enter Tryd.func27, Tryd.ntmps27
  go_wp2_with (first
  | (go_at_call 26; refine (refHas_any _ _ _).mono ?_; rintro r wn ⟨rfl, gn⟩; (first | rw [show (tagsK 1).contains 32 = true from by decide] | rw [show (tagsK 1).contains 33 = true from by decide] | rw [show (tagsK 1).contains 35 = true from by decide] | rw [show (tagsK 1).contains 36 = true from by decide] | rw [show (tagsK 1).contains 37 = false from by decide] | rw [show (tagsK 1).contains 38 = false from by decide]); have HBn := Lib.hid (HB.out.kept gn); have HWn := Lib.hid (grown_trans' HW.out gn); clear gn q0 q1 q2 q4 q5 q6 q7 HB HW; have HB := HBn; have HW := HWn; clear HBn HWn; have q0 := HB.out.at_ (i := 0) (v := .int .i64 1) (by rw [← HKD.out]; rfl); have q1 := HB.out.at_ (i := 1) (v := .string m.c) (by rfl); have q2 := HB.out.at_ (i := 2) (v := .string m.s) (by rfl); have q4 := HB.out.at_ (i := 4) (v := .int .i64 m.en) (by rfl); have q5 := HB.out.at_ (i := 5) (v := .int .i64 m.fl) (by rfl); have q6 := HB.out.at_ (i := 6) (v := .slice T 0 tc) (by rw [← Hz37.out]; rfl); have q7 := HB.out.at_ (i := 7) (v := .slice S n7 sc) (by rw [← HN7.out]; rfl))
  | (go_at_call 38; refine (refNamed_any _ _ rfl _ (by first | exact HLC.out | exact HLS.out)).mono ?_; rintro r wn ⟨rfl, gn⟩; (first | rw [Hh32.out] | rw [Hh33.out]); have HBn := Lib.hid (HB.out.kept gn); have HWn := Lib.hid (grown_trans' HW.out gn); clear gn q0 q1 q2 q4 q5 q6 q7 HB HW; have HB := HBn; have HW := HWn; clear HBn HWn; have q0 := HB.out.at_ (i := 0) (v := .int .i64 1) (by rw [← HKD.out]; rfl); have q1 := HB.out.at_ (i := 1) (v := .string m.c) (by rfl); have q2 := HB.out.at_ (i := 2) (v := .string m.s) (by rfl); have q4 := HB.out.at_ (i := 4) (v := .int .i64 m.en) (by rfl); have q5 := HB.out.at_ (i := 5) (v := .int .i64 m.fl) (by rfl); have q6 := HB.out.at_ (i := 6) (v := .slice T 0 tc) (by rw [← Hz37.out]; rfl); have q7 := HB.out.at_ (i := 7) (v := .slice S n7 sc) (by rw [← HN7.out]; rfl)))
  go_ret
  exact ⟨rfl, HW.out⟩
set_option maxRecDepth 10000 in
set_option maxHeartbeats 1000000 in
theorem refRight_1_9 (w : World) {n6 n7 : Nat} (hn6 : m.t.length = n6) (hn7 : m.sl.length = n7) (hk : m.kd = 1) (hc : m.c.size ≤ 10000) (hs : m.s.size ≤ 10000) (h32 : parses m.c.data.toList = true) (h33 : parses m.s.data.toList = true) (h35 : decide (m.en < 0) = false) (g35 : decide (1099511627776 < m.en) = false) (h36 : decide (m.fl < 0) = false) (g36 : decide (3 < m.fl) = false) (z37 : n6 = 0) (h38 : decide ((3000 : Int) < ((n7 : Nat) : Int)) = false) (g38 : decide ((0 : Int) < ((n7 : Nat) : Int)) = true) :
    Calls Tryd.prog 27 #[.agg (kcells m T tc S sc).toArray] w fun e w' => e = .returned (.bool false) ∧ w.grownBy w' none := by
  have HB := Lib.hid (CB.new w 26 (kcells m T tc S sc))
  have HW := Lib.hid (grown_alloc w (.cells (kcells m T tc S sc).toArray 26) none)
  have HLC := Lib.hid (show m.c.data.toList.length ≤ 10000 from hc)
  have HLS := Lib.hid (show m.s.data.toList.length ≤ 10000 from hs)
  have HKD := Lib.hid hk
  have HN6 := Lib.hid hn6
  have HN7 := Lib.hid hn7
  have Hh32 := Lib.hid h32
  have Hh33 := Lib.hid h33
  have Hz37 := Lib.hid (show m.t.length = 0 from hn6.trans z37)
  have lg38 : 0 < n7 := by have hq := of_decide_eq_true g38; omega
  have kg38 : decide (0 < n7) = true := decide_eq_true lg38
  clear hk hc hs hn6 hn7 h32 h33 z37
  have q0 := HB.out.at_ (i := 0) (v := .int .i64 1) (by rw [← HKD.out]; rfl); have q1 := HB.out.at_ (i := 1) (v := .string m.c) (by rfl); have q2 := HB.out.at_ (i := 2) (v := .string m.s) (by rfl); have q4 := HB.out.at_ (i := 4) (v := .int .i64 m.en) (by rfl); have q5 := HB.out.at_ (i := 5) (v := .int .i64 m.fl) (by rfl); have q6 := HB.out.at_ (i := 6) (v := .slice T 0 tc) (by rw [← Hz37.out]; rfl); have q7 := HB.out.at_ (i := 7) (v := .slice S n7 sc) (by rw [← HN7.out]; rfl)
  go_enter Tryd.func27, Tryd.ntmps27
  go_wp2_with (first
  | (go_at_call 26; refine (refHas_any _ _ _).mono ?_; rintro r wn ⟨rfl, gn⟩; (first | rw [show (tagsK 1).contains 32 = true from by decide] | rw [show (tagsK 1).contains 33 = true from by decide] | rw [show (tagsK 1).contains 35 = true from by decide] | rw [show (tagsK 1).contains 36 = true from by decide] | rw [show (tagsK 1).contains 37 = false from by decide] | rw [show (tagsK 1).contains 38 = false from by decide]); have HBn := Lib.hid (HB.out.kept gn); have HWn := Lib.hid (grown_trans' HW.out gn); clear gn q0 q1 q2 q4 q5 q6 q7 HB HW; have HB := HBn; have HW := HWn; clear HBn HWn; have q0 := HB.out.at_ (i := 0) (v := .int .i64 1) (by rw [← HKD.out]; rfl); have q1 := HB.out.at_ (i := 1) (v := .string m.c) (by rfl); have q2 := HB.out.at_ (i := 2) (v := .string m.s) (by rfl); have q4 := HB.out.at_ (i := 4) (v := .int .i64 m.en) (by rfl); have q5 := HB.out.at_ (i := 5) (v := .int .i64 m.fl) (by rfl); have q6 := HB.out.at_ (i := 6) (v := .slice T 0 tc) (by rw [← Hz37.out]; rfl); have q7 := HB.out.at_ (i := 7) (v := .slice S n7 sc) (by rw [← HN7.out]; rfl))
  | (go_at_call 38; refine (refNamed_any _ _ rfl _ (by first | exact HLC.out | exact HLS.out)).mono ?_; rintro r wn ⟨rfl, gn⟩; (first | rw [Hh32.out] | rw [Hh33.out]); have HBn := Lib.hid (HB.out.kept gn); have HWn := Lib.hid (grown_trans' HW.out gn); clear gn q0 q1 q2 q4 q5 q6 q7 HB HW; have HB := HBn; have HW := HWn; clear HBn HWn; have q0 := HB.out.at_ (i := 0) (v := .int .i64 1) (by rw [← HKD.out]; rfl); have q1 := HB.out.at_ (i := 1) (v := .string m.c) (by rfl); have q2 := HB.out.at_ (i := 2) (v := .string m.s) (by rfl); have q4 := HB.out.at_ (i := 4) (v := .int .i64 m.en) (by rfl); have q5 := HB.out.at_ (i := 5) (v := .int .i64 m.fl) (by rfl); have q6 := HB.out.at_ (i := 6) (v := .slice T 0 tc) (by rw [← Hz37.out]; rfl); have q7 := HB.out.at_ (i := 7) (v := .slice S n7 sc) (by rw [← HN7.out]; rfl)))
  go_ret
  exact ⟨rfl, HW.out⟩
set_option maxRecDepth 10000 in
set_option maxHeartbeats 1000000 in
theorem refRight_1_10 (w : World) {n6 n7 : Nat} (hn6 : m.t.length = n6) (hn7 : m.sl.length = n7) (hk : m.kd = 1) (hc : m.c.size ≤ 10000) (hs : m.s.size ≤ 10000) (h32 : parses m.c.data.toList = true) (h33 : parses m.s.data.toList = true) (h35 : decide (m.en < 0) = false) (g35 : decide (1099511627776 < m.en) = false) (h36 : decide (m.fl < 0) = false) (g36 : decide (3 < m.fl) = false) (z37 : n6 = 0) (z38 : n7 = 0) :
    Calls Tryd.prog 27 #[.agg (kcells m T tc S sc).toArray] w fun e w' => e = .returned (.bool (decide (m.co = 0))) ∧ w.grownBy w' none := by
  have HB := Lib.hid (CB.new w 26 (kcells m T tc S sc))
  have HW := Lib.hid (grown_alloc w (.cells (kcells m T tc S sc).toArray 26) none)
  have HLC := Lib.hid (show m.c.data.toList.length ≤ 10000 from hc)
  have HLS := Lib.hid (show m.s.data.toList.length ≤ 10000 from hs)
  have HKD := Lib.hid hk
  have HN6 := Lib.hid hn6
  have HN7 := Lib.hid hn7
  have Hh32 := Lib.hid h32
  have Hh33 := Lib.hid h33
  have Hz37 := Lib.hid (show m.t.length = 0 from hn6.trans z37)
  have Hz38 := Lib.hid (show m.sl.length = 0 from hn7.trans z38)
  clear hk hc hs hn6 hn7 h32 h33 z37 z38
  have q0 := HB.out.at_ (i := 0) (v := .int .i64 1) (by rw [← HKD.out]; rfl); have q1 := HB.out.at_ (i := 1) (v := .string m.c) (by rfl); have q2 := HB.out.at_ (i := 2) (v := .string m.s) (by rfl); have q4 := HB.out.at_ (i := 4) (v := .int .i64 m.en) (by rfl); have q5 := HB.out.at_ (i := 5) (v := .int .i64 m.fl) (by rfl); have q6 := HB.out.at_ (i := 6) (v := .slice T 0 tc) (by rw [← Hz37.out]; rfl); have q7 := HB.out.at_ (i := 7) (v := .slice S 0 sc) (by rw [← Hz38.out]; rfl); have q8 := HB.out.at_ (i := 8) (v := .int .i64 m.co) (by rfl)
  go_enter Tryd.func27, Tryd.ntmps27
  go_wp2_with (first
  | (go_at_call 26; refine (refHas_any _ _ _).mono ?_; rintro r wn ⟨rfl, gn⟩; (first | rw [show (tagsK 1).contains 32 = true from by decide] | rw [show (tagsK 1).contains 33 = true from by decide] | rw [show (tagsK 1).contains 35 = true from by decide] | rw [show (tagsK 1).contains 36 = true from by decide] | rw [show (tagsK 1).contains 37 = false from by decide] | rw [show (tagsK 1).contains 38 = false from by decide] | rw [show (tagsK 1).contains 39 = false from by decide]); have HBn := Lib.hid (HB.out.kept gn); have HWn := Lib.hid (grown_trans' HW.out gn); clear gn q0 q1 q2 q4 q5 q6 q7 q8 HB HW; have HB := HBn; have HW := HWn; clear HBn HWn; have q0 := HB.out.at_ (i := 0) (v := .int .i64 1) (by rw [← HKD.out]; rfl); have q1 := HB.out.at_ (i := 1) (v := .string m.c) (by rfl); have q2 := HB.out.at_ (i := 2) (v := .string m.s) (by rfl); have q4 := HB.out.at_ (i := 4) (v := .int .i64 m.en) (by rfl); have q5 := HB.out.at_ (i := 5) (v := .int .i64 m.fl) (by rfl); have q6 := HB.out.at_ (i := 6) (v := .slice T 0 tc) (by rw [← Hz37.out]; rfl); have q7 := HB.out.at_ (i := 7) (v := .slice S 0 sc) (by rw [← Hz38.out]; rfl); have q8 := HB.out.at_ (i := 8) (v := .int .i64 m.co) (by rfl))
  | (go_at_call 38; refine (refNamed_any _ _ rfl _ (by first | exact HLC.out | exact HLS.out)).mono ?_; rintro r wn ⟨rfl, gn⟩; (first | rw [Hh32.out] | rw [Hh33.out]); have HBn := Lib.hid (HB.out.kept gn); have HWn := Lib.hid (grown_trans' HW.out gn); clear gn q0 q1 q2 q4 q5 q6 q7 q8 HB HW; have HB := HBn; have HW := HWn; clear HBn HWn; have q0 := HB.out.at_ (i := 0) (v := .int .i64 1) (by rw [← HKD.out]; rfl); have q1 := HB.out.at_ (i := 1) (v := .string m.c) (by rfl); have q2 := HB.out.at_ (i := 2) (v := .string m.s) (by rfl); have q4 := HB.out.at_ (i := 4) (v := .int .i64 m.en) (by rfl); have q5 := HB.out.at_ (i := 5) (v := .int .i64 m.fl) (by rfl); have q6 := HB.out.at_ (i := 6) (v := .slice T 0 tc) (by rw [← Hz37.out]; rfl); have q7 := HB.out.at_ (i := 7) (v := .slice S 0 sc) (by rw [← Hz38.out]; rfl); have q8 := HB.out.at_ (i := 8) (v := .int .i64 m.co) (by rfl)))
  go_ret
  exact ⟨rfl, HW.out⟩
end Go.Proofs.YtnfmbgmncdodkaaDoor
namespace Go.Proofs.YtnfmbgmncdodkaaDoor
open Go.RowKit
variable {m : Msg} {T : Option Addr} {tc : Nat} {S : Option Addr} {sc : Nat}
set_option maxRecDepth 10000 in
set_option maxHeartbeats 1000000 in
theorem refRight_2_0 (w : World) {n6 n7 : Nat} (hn6 : m.t.length = n6) (hn7 : m.sl.length = n7) (hk : m.kd = 2) (hc : m.c.size ≤ 10000) (hs : m.s.size ≤ 10000) (h32 : m.c ≠ ⟨#[]⟩) :
    Calls Tryd.prog 27 #[.agg (kcells m T tc S sc).toArray] w fun e w' => e = .returned (.bool false) ∧ w.grownBy w' none := by
  have HB := Lib.hid (CB.new w 26 (kcells m T tc S sc))
  have HW := Lib.hid (grown_alloc w (.cells (kcells m T tc S sc).toArray 26) none)
  have HLC := Lib.hid (show m.c.data.toList.length ≤ 10000 from hc)
  have HLS := Lib.hid (show m.s.data.toList.length ≤ 10000 from hs)
  have HKD := Lib.hid hk
  have HN6 := Lib.hid hn6
  have HN7 := Lib.hid hn7
  have eh32 := ba_full h32
  clear hk hc hs hn6 hn7 h32
  have q0 := HB.out.at_ (i := 0) (v := .int .i64 2) (by rw [← HKD.out]; rfl); have q1 := HB.out.at_ (i := 1) (v := .string m.c) (by rfl)
  go_enter Tryd.func27, Tryd.ntmps27
  go_wp2_with (first
  | (go_at_call 26; refine (refHas_any _ _ _).mono ?_; rintro r wn ⟨rfl, gn⟩; (first | rw [show (tagsK 2).contains 32 = false from by decide]); have HBn := Lib.hid (HB.out.kept gn); have HWn := Lib.hid (grown_trans' HW.out gn); clear gn q0 q1 HB HW; have HB := HBn; have HW := HWn; clear HBn HWn; have q0 := HB.out.at_ (i := 0) (v := .int .i64 2) (by rw [← HKD.out]; rfl); have q1 := HB.out.at_ (i := 1) (v := .string m.c) (by rfl)))
  go_ret
  exact ⟨rfl, HW.out⟩
set_option maxRecDepth 10000 in
set_option maxHeartbeats 1000000 in
theorem refRight_2_1 (w : World) {n6 n7 : Nat} (hn6 : m.t.length = n6) (hn7 : m.sl.length = n7) (hk : m.kd = 2) (hc : m.c.size ≤ 10000) (hs : m.s.size ≤ 10000) (h32 : m.c = ⟨#[]⟩) (h33 : parses m.s.data.toList = false) :
    Calls Tryd.prog 27 #[.agg (kcells m T tc S sc).toArray] w fun e w' => e = .returned (.bool false) ∧ w.grownBy w' none := by
  have HB := Lib.hid (CB.new w 26 (kcells m T tc S sc))
  have HW := Lib.hid (grown_alloc w (.cells (kcells m T tc S sc).toArray 26) none)
  have HLC := Lib.hid (show m.c.data.toList.length ≤ 10000 from hc)
  have HLS := Lib.hid (show m.s.data.toList.length ≤ 10000 from hs)
  have HKD := Lib.hid hk
  have HN6 := Lib.hid hn6
  have HN7 := Lib.hid hn7
  have eh32 := ba_emp h32
  have Hh33 := Lib.hid h33
  clear hk hc hs hn6 hn7 h32 h33
  have q0 := HB.out.at_ (i := 0) (v := .int .i64 2) (by rw [← HKD.out]; rfl); have q1 := HB.out.at_ (i := 1) (v := .string m.c) (by rfl); have q2 := HB.out.at_ (i := 2) (v := .string m.s) (by rfl)
  go_enter Tryd.func27, Tryd.ntmps27
  go_wp2_with (first
  | (go_at_call 26; refine (refHas_any _ _ _).mono ?_; rintro r wn ⟨rfl, gn⟩; (first | rw [show (tagsK 2).contains 32 = false from by decide] | rw [show (tagsK 2).contains 33 = true from by decide]); have HBn := Lib.hid (HB.out.kept gn); have HWn := Lib.hid (grown_trans' HW.out gn); clear gn q0 q1 q2 HB HW; have HB := HBn; have HW := HWn; clear HBn HWn; have q0 := HB.out.at_ (i := 0) (v := .int .i64 2) (by rw [← HKD.out]; rfl); have q1 := HB.out.at_ (i := 1) (v := .string m.c) (by rfl); have q2 := HB.out.at_ (i := 2) (v := .string m.s) (by rfl))
  | (go_at_call 38; refine (refNamed_any _ _ rfl _ (by first | exact HLC.out | exact HLS.out)).mono ?_; rintro r wn ⟨rfl, gn⟩; (first | rw [Hh33.out]); have HBn := Lib.hid (HB.out.kept gn); have HWn := Lib.hid (grown_trans' HW.out gn); clear gn q0 q1 q2 HB HW; have HB := HBn; have HW := HWn; clear HBn HWn; have q0 := HB.out.at_ (i := 0) (v := .int .i64 2) (by rw [← HKD.out]; rfl); have q1 := HB.out.at_ (i := 1) (v := .string m.c) (by rfl); have q2 := HB.out.at_ (i := 2) (v := .string m.s) (by rfl)))
  go_ret
  exact ⟨rfl, HW.out⟩
set_option maxRecDepth 10000 in
set_option maxHeartbeats 1000000 in
theorem refRight_2_2 (w : World) {n6 n7 : Nat} (hn6 : m.t.length = n6) (hn7 : m.sl.length = n7) (hk : m.kd = 2) (hc : m.c.size ≤ 10000) (hs : m.s.size ≤ 10000) (h32 : m.c = ⟨#[]⟩) (h33 : parses m.s.data.toList = true) (h35 : decide (m.en < 0) = true) :
    Calls Tryd.prog 27 #[.agg (kcells m T tc S sc).toArray] w fun e w' => e = .returned (.bool false) ∧ w.grownBy w' none := by
  have HB := Lib.hid (CB.new w 26 (kcells m T tc S sc))
  have HW := Lib.hid (grown_alloc w (.cells (kcells m T tc S sc).toArray 26) none)
  have HLC := Lib.hid (show m.c.data.toList.length ≤ 10000 from hc)
  have HLS := Lib.hid (show m.s.data.toList.length ≤ 10000 from hs)
  have HKD := Lib.hid hk
  have HN6 := Lib.hid hn6
  have HN7 := Lib.hid hn7
  have eh32 := ba_emp h32
  have Hh33 := Lib.hid h33
  clear hk hc hs hn6 hn7 h32 h33
  have q0 := HB.out.at_ (i := 0) (v := .int .i64 2) (by rw [← HKD.out]; rfl); have q1 := HB.out.at_ (i := 1) (v := .string m.c) (by rfl); have q2 := HB.out.at_ (i := 2) (v := .string m.s) (by rfl); have q4 := HB.out.at_ (i := 4) (v := .int .i64 m.en) (by rfl)
  go_enter Tryd.func27, Tryd.ntmps27
  go_wp2_with (first
  | (go_at_call 26; refine (refHas_any _ _ _).mono ?_; rintro r wn ⟨rfl, gn⟩; (first | rw [show (tagsK 2).contains 32 = false from by decide] | rw [show (tagsK 2).contains 33 = true from by decide] | rw [show (tagsK 2).contains 35 = true from by decide]); have HBn := Lib.hid (HB.out.kept gn); have HWn := Lib.hid (grown_trans' HW.out gn); clear gn q0 q1 q2 q4 HB HW; have HB := HBn; have HW := HWn; clear HBn HWn; have q0 := HB.out.at_ (i := 0) (v := .int .i64 2) (by rw [← HKD.out]; rfl); have q1 := HB.out.at_ (i := 1) (v := .string m.c) (by rfl); have q2 := HB.out.at_ (i := 2) (v := .string m.s) (by rfl); have q4 := HB.out.at_ (i := 4) (v := .int .i64 m.en) (by rfl))
  | (go_at_call 38; refine (refNamed_any _ _ rfl _ (by first | exact HLC.out | exact HLS.out)).mono ?_; rintro r wn ⟨rfl, gn⟩; (first | rw [Hh33.out]); have HBn := Lib.hid (HB.out.kept gn); have HWn := Lib.hid (grown_trans' HW.out gn); clear gn q0 q1 q2 q4 HB HW; have HB := HBn; have HW := HWn; clear HBn HWn; have q0 := HB.out.at_ (i := 0) (v := .int .i64 2) (by rw [← HKD.out]; rfl); have q1 := HB.out.at_ (i := 1) (v := .string m.c) (by rfl); have q2 := HB.out.at_ (i := 2) (v := .string m.s) (by rfl); have q4 := HB.out.at_ (i := 4) (v := .int .i64 m.en) (by rfl)))
  go_ret
  exact ⟨rfl, HW.out⟩
set_option maxRecDepth 10000 in
set_option maxHeartbeats 1000000 in
theorem refRight_2_3 (w : World) {n6 n7 : Nat} (hn6 : m.t.length = n6) (hn7 : m.sl.length = n7) (hk : m.kd = 2) (hc : m.c.size ≤ 10000) (hs : m.s.size ≤ 10000) (h32 : m.c = ⟨#[]⟩) (h33 : parses m.s.data.toList = true) (h35 : decide (m.en < 0) = false) (g35 : decide (1099511627776 < m.en) = true) :
    Calls Tryd.prog 27 #[.agg (kcells m T tc S sc).toArray] w fun e w' => e = .returned (.bool false) ∧ w.grownBy w' none := by
  have HB := Lib.hid (CB.new w 26 (kcells m T tc S sc))
  have HW := Lib.hid (grown_alloc w (.cells (kcells m T tc S sc).toArray 26) none)
  have HLC := Lib.hid (show m.c.data.toList.length ≤ 10000 from hc)
  have HLS := Lib.hid (show m.s.data.toList.length ≤ 10000 from hs)
  have HKD := Lib.hid hk
  have HN6 := Lib.hid hn6
  have HN7 := Lib.hid hn7
  have eh32 := ba_emp h32
  have Hh33 := Lib.hid h33
  clear hk hc hs hn6 hn7 h32 h33
  have q0 := HB.out.at_ (i := 0) (v := .int .i64 2) (by rw [← HKD.out]; rfl); have q1 := HB.out.at_ (i := 1) (v := .string m.c) (by rfl); have q2 := HB.out.at_ (i := 2) (v := .string m.s) (by rfl); have q4 := HB.out.at_ (i := 4) (v := .int .i64 m.en) (by rfl)
  go_enter Tryd.func27, Tryd.ntmps27
  go_wp2_with (first
  | (go_at_call 26; refine (refHas_any _ _ _).mono ?_; rintro r wn ⟨rfl, gn⟩; (first | rw [show (tagsK 2).contains 32 = false from by decide] | rw [show (tagsK 2).contains 33 = true from by decide] | rw [show (tagsK 2).contains 35 = true from by decide]); have HBn := Lib.hid (HB.out.kept gn); have HWn := Lib.hid (grown_trans' HW.out gn); clear gn q0 q1 q2 q4 HB HW; have HB := HBn; have HW := HWn; clear HBn HWn; have q0 := HB.out.at_ (i := 0) (v := .int .i64 2) (by rw [← HKD.out]; rfl); have q1 := HB.out.at_ (i := 1) (v := .string m.c) (by rfl); have q2 := HB.out.at_ (i := 2) (v := .string m.s) (by rfl); have q4 := HB.out.at_ (i := 4) (v := .int .i64 m.en) (by rfl))
  | (go_at_call 38; refine (refNamed_any _ _ rfl _ (by first | exact HLC.out | exact HLS.out)).mono ?_; rintro r wn ⟨rfl, gn⟩; (first | rw [Hh33.out]); have HBn := Lib.hid (HB.out.kept gn); have HWn := Lib.hid (grown_trans' HW.out gn); clear gn q0 q1 q2 q4 HB HW; have HB := HBn; have HW := HWn; clear HBn HWn; have q0 := HB.out.at_ (i := 0) (v := .int .i64 2) (by rw [← HKD.out]; rfl); have q1 := HB.out.at_ (i := 1) (v := .string m.c) (by rfl); have q2 := HB.out.at_ (i := 2) (v := .string m.s) (by rfl); have q4 := HB.out.at_ (i := 4) (v := .int .i64 m.en) (by rfl)))
  go_ret
  exact ⟨rfl, HW.out⟩
set_option maxRecDepth 10000 in
set_option maxHeartbeats 1000000 in
theorem refRight_2_4 (w : World) {n6 n7 : Nat} (hn6 : m.t.length = n6) (hn7 : m.sl.length = n7) (hk : m.kd = 2) (hc : m.c.size ≤ 10000) (hs : m.s.size ≤ 10000) (h32 : m.c = ⟨#[]⟩) (h33 : parses m.s.data.toList = true) (h35 : decide (m.en < 0) = false) (g35 : decide (1099511627776 < m.en) = false) (h36 : decide (m.fl < 0) = true) :
    Calls Tryd.prog 27 #[.agg (kcells m T tc S sc).toArray] w fun e w' => e = .returned (.bool false) ∧ w.grownBy w' none := by
  have HB := Lib.hid (CB.new w 26 (kcells m T tc S sc))
  have HW := Lib.hid (grown_alloc w (.cells (kcells m T tc S sc).toArray 26) none)
  have HLC := Lib.hid (show m.c.data.toList.length ≤ 10000 from hc)
  have HLS := Lib.hid (show m.s.data.toList.length ≤ 10000 from hs)
  have HKD := Lib.hid hk
  have HN6 := Lib.hid hn6
  have HN7 := Lib.hid hn7
  have eh32 := ba_emp h32
  have Hh33 := Lib.hid h33
  clear hk hc hs hn6 hn7 h32 h33
  have q0 := HB.out.at_ (i := 0) (v := .int .i64 2) (by rw [← HKD.out]; rfl); have q1 := HB.out.at_ (i := 1) (v := .string m.c) (by rfl); have q2 := HB.out.at_ (i := 2) (v := .string m.s) (by rfl); have q4 := HB.out.at_ (i := 4) (v := .int .i64 m.en) (by rfl); have q5 := HB.out.at_ (i := 5) (v := .int .i64 m.fl) (by rfl)
  go_enter Tryd.func27, Tryd.ntmps27
  go_wp2_with (first
  | (go_at_call 26; refine (refHas_any _ _ _).mono ?_; rintro r wn ⟨rfl, gn⟩; (first | rw [show (tagsK 2).contains 32 = false from by decide] | rw [show (tagsK 2).contains 33 = true from by decide] | rw [show (tagsK 2).contains 35 = true from by decide] | rw [show (tagsK 2).contains 36 = true from by decide]); have HBn := Lib.hid (HB.out.kept gn); have HWn := Lib.hid (grown_trans' HW.out gn); clear gn q0 q1 q2 q4 q5 HB HW; have HB := HBn; have HW := HWn; clear HBn HWn; have q0 := HB.out.at_ (i := 0) (v := .int .i64 2) (by rw [← HKD.out]; rfl); have q1 := HB.out.at_ (i := 1) (v := .string m.c) (by rfl); have q2 := HB.out.at_ (i := 2) (v := .string m.s) (by rfl); have q4 := HB.out.at_ (i := 4) (v := .int .i64 m.en) (by rfl); have q5 := HB.out.at_ (i := 5) (v := .int .i64 m.fl) (by rfl))
  | (go_at_call 38; refine (refNamed_any _ _ rfl _ (by first | exact HLC.out | exact HLS.out)).mono ?_; rintro r wn ⟨rfl, gn⟩; (first | rw [Hh33.out]); have HBn := Lib.hid (HB.out.kept gn); have HWn := Lib.hid (grown_trans' HW.out gn); clear gn q0 q1 q2 q4 q5 HB HW; have HB := HBn; have HW := HWn; clear HBn HWn; have q0 := HB.out.at_ (i := 0) (v := .int .i64 2) (by rw [← HKD.out]; rfl); have q1 := HB.out.at_ (i := 1) (v := .string m.c) (by rfl); have q2 := HB.out.at_ (i := 2) (v := .string m.s) (by rfl); have q4 := HB.out.at_ (i := 4) (v := .int .i64 m.en) (by rfl); have q5 := HB.out.at_ (i := 5) (v := .int .i64 m.fl) (by rfl)))
  go_ret
  exact ⟨rfl, HW.out⟩
set_option maxRecDepth 10000 in
set_option maxHeartbeats 1000000 in
theorem refRight_2_5 (w : World) {n6 n7 : Nat} (hn6 : m.t.length = n6) (hn7 : m.sl.length = n7) (hk : m.kd = 2) (hc : m.c.size ≤ 10000) (hs : m.s.size ≤ 10000) (h32 : m.c = ⟨#[]⟩) (h33 : parses m.s.data.toList = true) (h35 : decide (m.en < 0) = false) (g35 : decide (1099511627776 < m.en) = false) (h36 : decide (m.fl < 0) = false) (g36 : decide (3 < m.fl) = true) :
    Calls Tryd.prog 27 #[.agg (kcells m T tc S sc).toArray] w fun e w' => e = .returned (.bool false) ∧ w.grownBy w' none := by
  have HB := Lib.hid (CB.new w 26 (kcells m T tc S sc))
  have HW := Lib.hid (grown_alloc w (.cells (kcells m T tc S sc).toArray 26) none)
  have HLC := Lib.hid (show m.c.data.toList.length ≤ 10000 from hc)
  have HLS := Lib.hid (show m.s.data.toList.length ≤ 10000 from hs)
  have HKD := Lib.hid hk
  have HN6 := Lib.hid hn6
  have HN7 := Lib.hid hn7
  have eh32 := ba_emp h32
  have Hh33 := Lib.hid h33
  clear hk hc hs hn6 hn7 h32 h33
  have q0 := HB.out.at_ (i := 0) (v := .int .i64 2) (by rw [← HKD.out]; rfl); have q1 := HB.out.at_ (i := 1) (v := .string m.c) (by rfl); have q2 := HB.out.at_ (i := 2) (v := .string m.s) (by rfl); have q4 := HB.out.at_ (i := 4) (v := .int .i64 m.en) (by rfl); have q5 := HB.out.at_ (i := 5) (v := .int .i64 m.fl) (by rfl)
  go_enter Tryd.func27, Tryd.ntmps27
  go_wp2_with (first
  | (go_at_call 26; refine (refHas_any _ _ _).mono ?_; rintro r wn ⟨rfl, gn⟩; (first | rw [show (tagsK 2).contains 32 = false from by decide] | rw [show (tagsK 2).contains 33 = true from by decide] | rw [show (tagsK 2).contains 35 = true from by decide] | rw [show (tagsK 2).contains 36 = true from by decide]); have HBn := Lib.hid (HB.out.kept gn); have HWn := Lib.hid (grown_trans' HW.out gn); clear gn q0 q1 q2 q4 q5 HB HW; have HB := HBn; have HW := HWn; clear HBn HWn; have q0 := HB.out.at_ (i := 0) (v := .int .i64 2) (by rw [← HKD.out]; rfl); have q1 := HB.out.at_ (i := 1) (v := .string m.c) (by rfl); have q2 := HB.out.at_ (i := 2) (v := .string m.s) (by rfl); have q4 := HB.out.at_ (i := 4) (v := .int .i64 m.en) (by rfl); have q5 := HB.out.at_ (i := 5) (v := .int .i64 m.fl) (by rfl))
  | (go_at_call 38; refine (refNamed_any _ _ rfl _ (by first | exact HLC.out | exact HLS.out)).mono ?_; rintro r wn ⟨rfl, gn⟩; (first | rw [Hh33.out]); have HBn := Lib.hid (HB.out.kept gn); have HWn := Lib.hid (grown_trans' HW.out gn); clear gn q0 q1 q2 q4 q5 HB HW; have HB := HBn; have HW := HWn; clear HBn HWn; have q0 := HB.out.at_ (i := 0) (v := .int .i64 2) (by rw [← HKD.out]; rfl); have q1 := HB.out.at_ (i := 1) (v := .string m.c) (by rfl); have q2 := HB.out.at_ (i := 2) (v := .string m.s) (by rfl); have q4 := HB.out.at_ (i := 4) (v := .int .i64 m.en) (by rfl); have q5 := HB.out.at_ (i := 5) (v := .int .i64 m.fl) (by rfl)))
  go_ret
  exact ⟨rfl, HW.out⟩
set_option maxRecDepth 10000 in
set_option maxHeartbeats 1000000 in
theorem refRight_2_6 (w : World) {n6 n7 : Nat} (hn6 : m.t.length = n6) (hn7 : m.sl.length = n7) (hk : m.kd = 2) (hc : m.c.size ≤ 10000) (hs : m.s.size ≤ 10000) (h32 : m.c = ⟨#[]⟩) (h33 : parses m.s.data.toList = true) (h35 : decide (m.en < 0) = false) (g35 : decide (1099511627776 < m.en) = false) (h36 : decide (m.fl < 0) = false) (g36 : decide (3 < m.fl) = false) (h37 : decide ((3000 : Int) < ((n6 : Nat) : Int)) = true) :
    Calls Tryd.prog 27 #[.agg (kcells m T tc S sc).toArray] w fun e w' => e = .returned (.bool false) ∧ w.grownBy w' none := by
  have HB := Lib.hid (CB.new w 26 (kcells m T tc S sc))
  have HW := Lib.hid (grown_alloc w (.cells (kcells m T tc S sc).toArray 26) none)
  have HLC := Lib.hid (show m.c.data.toList.length ≤ 10000 from hc)
  have HLS := Lib.hid (show m.s.data.toList.length ≤ 10000 from hs)
  have HKD := Lib.hid hk
  have HN6 := Lib.hid hn6
  have HN7 := Lib.hid hn7
  have eh32 := ba_emp h32
  have Hh33 := Lib.hid h33
  clear hk hc hs hn6 hn7 h32 h33
  have q0 := HB.out.at_ (i := 0) (v := .int .i64 2) (by rw [← HKD.out]; rfl); have q1 := HB.out.at_ (i := 1) (v := .string m.c) (by rfl); have q2 := HB.out.at_ (i := 2) (v := .string m.s) (by rfl); have q4 := HB.out.at_ (i := 4) (v := .int .i64 m.en) (by rfl); have q5 := HB.out.at_ (i := 5) (v := .int .i64 m.fl) (by rfl); have q6 := HB.out.at_ (i := 6) (v := .slice T n6 tc) (by rw [← HN6.out]; rfl)
  go_enter Tryd.func27, Tryd.ntmps27
  go_wp2_with (first
  | (go_at_call 26; refine (refHas_any _ _ _).mono ?_; rintro r wn ⟨rfl, gn⟩; (first | rw [show (tagsK 2).contains 32 = false from by decide] | rw [show (tagsK 2).contains 33 = true from by decide] | rw [show (tagsK 2).contains 35 = true from by decide] | rw [show (tagsK 2).contains 36 = true from by decide] | rw [show (tagsK 2).contains 37 = true from by decide]); have HBn := Lib.hid (HB.out.kept gn); have HWn := Lib.hid (grown_trans' HW.out gn); clear gn q0 q1 q2 q4 q5 q6 HB HW; have HB := HBn; have HW := HWn; clear HBn HWn; have q0 := HB.out.at_ (i := 0) (v := .int .i64 2) (by rw [← HKD.out]; rfl); have q1 := HB.out.at_ (i := 1) (v := .string m.c) (by rfl); have q2 := HB.out.at_ (i := 2) (v := .string m.s) (by rfl); have q4 := HB.out.at_ (i := 4) (v := .int .i64 m.en) (by rfl); have q5 := HB.out.at_ (i := 5) (v := .int .i64 m.fl) (by rfl); have q6 := HB.out.at_ (i := 6) (v := .slice T n6 tc) (by rw [← HN6.out]; rfl))
  | (go_at_call 38; refine (refNamed_any _ _ rfl _ (by first | exact HLC.out | exact HLS.out)).mono ?_; rintro r wn ⟨rfl, gn⟩; (first | rw [Hh33.out]); have HBn := Lib.hid (HB.out.kept gn); have HWn := Lib.hid (grown_trans' HW.out gn); clear gn q0 q1 q2 q4 q5 q6 HB HW; have HB := HBn; have HW := HWn; clear HBn HWn; have q0 := HB.out.at_ (i := 0) (v := .int .i64 2) (by rw [← HKD.out]; rfl); have q1 := HB.out.at_ (i := 1) (v := .string m.c) (by rfl); have q2 := HB.out.at_ (i := 2) (v := .string m.s) (by rfl); have q4 := HB.out.at_ (i := 4) (v := .int .i64 m.en) (by rfl); have q5 := HB.out.at_ (i := 5) (v := .int .i64 m.fl) (by rfl); have q6 := HB.out.at_ (i := 6) (v := .slice T n6 tc) (by rw [← HN6.out]; rfl)))
  go_ret
  exact ⟨rfl, HW.out⟩
set_option maxRecDepth 10000 in
set_option maxHeartbeats 1000000 in
theorem refRight_2_7 (w : World) {n6 n7 : Nat} (hn6 : m.t.length = n6) (hn7 : m.sl.length = n7) (hk : m.kd = 2) (hc : m.c.size ≤ 10000) (hs : m.s.size ≤ 10000) (h32 : m.c = ⟨#[]⟩) (h33 : parses m.s.data.toList = true) (h35 : decide (m.en < 0) = false) (g35 : decide (1099511627776 < m.en) = false) (h36 : decide (m.fl < 0) = false) (g36 : decide (3 < m.fl) = false) (h37 : decide ((3000 : Int) < ((n6 : Nat) : Int)) = false) (h38 : decide ((3000 : Int) < ((n7 : Nat) : Int)) = true) :
    Calls Tryd.prog 27 #[.agg (kcells m T tc S sc).toArray] w fun e w' => e = .returned (.bool false) ∧ w.grownBy w' none := by
  have HB := Lib.hid (CB.new w 26 (kcells m T tc S sc))
  have HW := Lib.hid (grown_alloc w (.cells (kcells m T tc S sc).toArray 26) none)
  have HLC := Lib.hid (show m.c.data.toList.length ≤ 10000 from hc)
  have HLS := Lib.hid (show m.s.data.toList.length ≤ 10000 from hs)
  have HKD := Lib.hid hk
  have HN6 := Lib.hid hn6
  have HN7 := Lib.hid hn7
  have eh32 := ba_emp h32
  have Hh33 := Lib.hid h33
  clear hk hc hs hn6 hn7 h32 h33
  have q0 := HB.out.at_ (i := 0) (v := .int .i64 2) (by rw [← HKD.out]; rfl); have q1 := HB.out.at_ (i := 1) (v := .string m.c) (by rfl); have q2 := HB.out.at_ (i := 2) (v := .string m.s) (by rfl); have q4 := HB.out.at_ (i := 4) (v := .int .i64 m.en) (by rfl); have q5 := HB.out.at_ (i := 5) (v := .int .i64 m.fl) (by rfl); have q6 := HB.out.at_ (i := 6) (v := .slice T n6 tc) (by rw [← HN6.out]; rfl); have q7 := HB.out.at_ (i := 7) (v := .slice S n7 sc) (by rw [← HN7.out]; rfl)
  go_enter Tryd.func27, Tryd.ntmps27
  go_wp2_with (first
  | (go_at_call 26; refine (refHas_any _ _ _).mono ?_; rintro r wn ⟨rfl, gn⟩; (first | rw [show (tagsK 2).contains 32 = false from by decide] | rw [show (tagsK 2).contains 33 = true from by decide] | rw [show (tagsK 2).contains 35 = true from by decide] | rw [show (tagsK 2).contains 36 = true from by decide] | rw [show (tagsK 2).contains 37 = true from by decide] | rw [show (tagsK 2).contains 38 = true from by decide]); have HBn := Lib.hid (HB.out.kept gn); have HWn := Lib.hid (grown_trans' HW.out gn); clear gn q0 q1 q2 q4 q5 q6 q7 HB HW; have HB := HBn; have HW := HWn; clear HBn HWn; have q0 := HB.out.at_ (i := 0) (v := .int .i64 2) (by rw [← HKD.out]; rfl); have q1 := HB.out.at_ (i := 1) (v := .string m.c) (by rfl); have q2 := HB.out.at_ (i := 2) (v := .string m.s) (by rfl); have q4 := HB.out.at_ (i := 4) (v := .int .i64 m.en) (by rfl); have q5 := HB.out.at_ (i := 5) (v := .int .i64 m.fl) (by rfl); have q6 := HB.out.at_ (i := 6) (v := .slice T n6 tc) (by rw [← HN6.out]; rfl); have q7 := HB.out.at_ (i := 7) (v := .slice S n7 sc) (by rw [← HN7.out]; rfl))
  | (go_at_call 38; refine (refNamed_any _ _ rfl _ (by first | exact HLC.out | exact HLS.out)).mono ?_; rintro r wn ⟨rfl, gn⟩; (first | rw [Hh33.out]); have HBn := Lib.hid (HB.out.kept gn); have HWn := Lib.hid (grown_trans' HW.out gn); clear gn q0 q1 q2 q4 q5 q6 q7 HB HW; have HB := HBn; have HW := HWn; clear HBn HWn; have q0 := HB.out.at_ (i := 0) (v := .int .i64 2) (by rw [← HKD.out]; rfl); have q1 := HB.out.at_ (i := 1) (v := .string m.c) (by rfl); have q2 := HB.out.at_ (i := 2) (v := .string m.s) (by rfl); have q4 := HB.out.at_ (i := 4) (v := .int .i64 m.en) (by rfl); have q5 := HB.out.at_ (i := 5) (v := .int .i64 m.fl) (by rfl); have q6 := HB.out.at_ (i := 6) (v := .slice T n6 tc) (by rw [← HN6.out]; rfl); have q7 := HB.out.at_ (i := 7) (v := .slice S n7 sc) (by rw [← HN7.out]; rfl)))
  go_ret
  exact ⟨rfl, HW.out⟩
set_option maxRecDepth 10000 in
set_option maxHeartbeats 1000000 in
theorem refRight_2_8 (w : World) {n6 n7 : Nat} (hn6 : m.t.length = n6) (hn7 : m.sl.length = n7) (hk : m.kd = 2) (hc : m.c.size ≤ 10000) (hs : m.s.size ≤ 10000) (h32 : m.c = ⟨#[]⟩) (h33 : parses m.s.data.toList = true) (h35 : decide (m.en < 0) = false) (g35 : decide (1099511627776 < m.en) = false) (h36 : decide (m.fl < 0) = false) (g36 : decide (3 < m.fl) = false) (h37 : decide ((3000 : Int) < ((n6 : Nat) : Int)) = false) (h38 : decide ((3000 : Int) < ((n7 : Nat) : Int)) = false) :
    Calls Tryd.prog 27 #[.agg (kcells m T tc S sc).toArray] w fun e w' => e = .returned (.bool (decide (m.co = 0))) ∧ w.grownBy w' none := by
  have HB := Lib.hid (CB.new w 26 (kcells m T tc S sc))
  have HW := Lib.hid (grown_alloc w (.cells (kcells m T tc S sc).toArray 26) none)
  have HLC := Lib.hid (show m.c.data.toList.length ≤ 10000 from hc)
  have HLS := Lib.hid (show m.s.data.toList.length ≤ 10000 from hs)
  have HKD := Lib.hid hk
  have HN6 := Lib.hid hn6
  have HN7 := Lib.hid hn7
  have eh32 := ba_emp h32
  have Hh33 := Lib.hid h33
  clear hk hc hs hn6 hn7 h32 h33
  have q0 := HB.out.at_ (i := 0) (v := .int .i64 2) (by rw [← HKD.out]; rfl); have q1 := HB.out.at_ (i := 1) (v := .string m.c) (by rfl); have q2 := HB.out.at_ (i := 2) (v := .string m.s) (by rfl); have q4 := HB.out.at_ (i := 4) (v := .int .i64 m.en) (by rfl); have q5 := HB.out.at_ (i := 5) (v := .int .i64 m.fl) (by rfl); have q6 := HB.out.at_ (i := 6) (v := .slice T n6 tc) (by rw [← HN6.out]; rfl); have q7 := HB.out.at_ (i := 7) (v := .slice S n7 sc) (by rw [← HN7.out]; rfl); have q8 := HB.out.at_ (i := 8) (v := .int .i64 m.co) (by rfl)
  go_enter Tryd.func27, Tryd.ntmps27
  go_wp2_with (first
  | (go_at_call 26; refine (refHas_any _ _ _).mono ?_; rintro r wn ⟨rfl, gn⟩; (first | rw [show (tagsK 2).contains 32 = false from by decide] | rw [show (tagsK 2).contains 33 = true from by decide] | rw [show (tagsK 2).contains 35 = true from by decide] | rw [show (tagsK 2).contains 36 = true from by decide] | rw [show (tagsK 2).contains 37 = true from by decide] | rw [show (tagsK 2).contains 38 = true from by decide] | rw [show (tagsK 2).contains 39 = false from by decide]); have HBn := Lib.hid (HB.out.kept gn); have HWn := Lib.hid (grown_trans' HW.out gn); clear gn q0 q1 q2 q4 q5 q6 q7 q8 HB HW; have HB := HBn; have HW := HWn; clear HBn HWn; have q0 := HB.out.at_ (i := 0) (v := .int .i64 2) (by rw [← HKD.out]; rfl); have q1 := HB.out.at_ (i := 1) (v := .string m.c) (by rfl); have q2 := HB.out.at_ (i := 2) (v := .string m.s) (by rfl); have q4 := HB.out.at_ (i := 4) (v := .int .i64 m.en) (by rfl); have q5 := HB.out.at_ (i := 5) (v := .int .i64 m.fl) (by rfl); have q6 := HB.out.at_ (i := 6) (v := .slice T n6 tc) (by rw [← HN6.out]; rfl); have q7 := HB.out.at_ (i := 7) (v := .slice S n7 sc) (by rw [← HN7.out]; rfl); have q8 := HB.out.at_ (i := 8) (v := .int .i64 m.co) (by rfl))
  | (go_at_call 38; refine (refNamed_any _ _ rfl _ (by first | exact HLC.out | exact HLS.out)).mono ?_; rintro r wn ⟨rfl, gn⟩; (first | rw [Hh33.out]); have HBn := Lib.hid (HB.out.kept gn); have HWn := Lib.hid (grown_trans' HW.out gn); clear gn q0 q1 q2 q4 q5 q6 q7 q8 HB HW; have HB := HBn; have HW := HWn; clear HBn HWn; have q0 := HB.out.at_ (i := 0) (v := .int .i64 2) (by rw [← HKD.out]; rfl); have q1 := HB.out.at_ (i := 1) (v := .string m.c) (by rfl); have q2 := HB.out.at_ (i := 2) (v := .string m.s) (by rfl); have q4 := HB.out.at_ (i := 4) (v := .int .i64 m.en) (by rfl); have q5 := HB.out.at_ (i := 5) (v := .int .i64 m.fl) (by rfl); have q6 := HB.out.at_ (i := 6) (v := .slice T n6 tc) (by rw [← HN6.out]; rfl); have q7 := HB.out.at_ (i := 7) (v := .slice S n7 sc) (by rw [← HN7.out]; rfl); have q8 := HB.out.at_ (i := 8) (v := .int .i64 m.co) (by rfl)))
  go_ret
  exact ⟨rfl, HW.out⟩
end Go.Proofs.YtnfmbgmncdodkaaDoor
namespace Go.Proofs.YtnfmbgmncdodkaaDoor
open Go.RowKit
variable {m : Msg} {T : Option Addr} {tc : Nat} {S : Option Addr} {sc : Nat}
set_option maxRecDepth 10000 in
set_option maxHeartbeats 1000000 in
theorem refRight_3_0 (w : World) {n6 n7 : Nat} (hn6 : m.t.length = n6) (hn7 : m.sl.length = n7) (hk : m.kd = 3) (hc : m.c.size ≤ 10000) (hs : m.s.size ≤ 10000) (h32 : m.c ≠ ⟨#[]⟩) :
    Calls Tryd.prog 27 #[.agg (kcells m T tc S sc).toArray] w fun e w' => e = .returned (.bool false) ∧ w.grownBy w' none := by
  have HB := Lib.hid (CB.new w 26 (kcells m T tc S sc))
  have HW := Lib.hid (grown_alloc w (.cells (kcells m T tc S sc).toArray 26) none)
  have HLC := Lib.hid (show m.c.data.toList.length ≤ 10000 from hc)
  have HLS := Lib.hid (show m.s.data.toList.length ≤ 10000 from hs)
  have HKD := Lib.hid hk
  have HN6 := Lib.hid hn6
  have HN7 := Lib.hid hn7
  have eh32 := ba_full h32
  clear hk hc hs hn6 hn7 h32
  have q0 := HB.out.at_ (i := 0) (v := .int .i64 3) (by rw [← HKD.out]; rfl); have q1 := HB.out.at_ (i := 1) (v := .string m.c) (by rfl)
  go_enter Tryd.func27, Tryd.ntmps27
  go_wp2_with (first
  | (go_at_call 26; refine (refHas_any _ _ _).mono ?_; rintro r wn ⟨rfl, gn⟩; (first | rw [show (tagsK 3).contains 32 = false from by decide]); have HBn := Lib.hid (HB.out.kept gn); have HWn := Lib.hid (grown_trans' HW.out gn); clear gn q0 q1 HB HW; have HB := HBn; have HW := HWn; clear HBn HWn; have q0 := HB.out.at_ (i := 0) (v := .int .i64 3) (by rw [← HKD.out]; rfl); have q1 := HB.out.at_ (i := 1) (v := .string m.c) (by rfl)))
  go_ret
  exact ⟨rfl, HW.out⟩
set_option maxRecDepth 10000 in
set_option maxHeartbeats 1000000 in
theorem refRight_3_1 (w : World) {n6 n7 : Nat} (hn6 : m.t.length = n6) (hn7 : m.sl.length = n7) (hk : m.kd = 3) (hc : m.c.size ≤ 10000) (hs : m.s.size ≤ 10000) (h32 : m.c = ⟨#[]⟩) (h33 : m.s ≠ ⟨#[]⟩) :
    Calls Tryd.prog 27 #[.agg (kcells m T tc S sc).toArray] w fun e w' => e = .returned (.bool false) ∧ w.grownBy w' none := by
  have HB := Lib.hid (CB.new w 26 (kcells m T tc S sc))
  have HW := Lib.hid (grown_alloc w (.cells (kcells m T tc S sc).toArray 26) none)
  have HLC := Lib.hid (show m.c.data.toList.length ≤ 10000 from hc)
  have HLS := Lib.hid (show m.s.data.toList.length ≤ 10000 from hs)
  have HKD := Lib.hid hk
  have HN6 := Lib.hid hn6
  have HN7 := Lib.hid hn7
  have eh32 := ba_emp h32
  have eh33 := ba_full h33
  clear hk hc hs hn6 hn7 h32 h33
  have q0 := HB.out.at_ (i := 0) (v := .int .i64 3) (by rw [← HKD.out]; rfl); have q1 := HB.out.at_ (i := 1) (v := .string m.c) (by rfl); have q2 := HB.out.at_ (i := 2) (v := .string m.s) (by rfl)
  go_enter Tryd.func27, Tryd.ntmps27
  go_wp2_with (first
  | (go_at_call 26; refine (refHas_any _ _ _).mono ?_; rintro r wn ⟨rfl, gn⟩; (first | rw [show (tagsK 3).contains 32 = false from by decide] | rw [show (tagsK 3).contains 33 = false from by decide]); have HBn := Lib.hid (HB.out.kept gn); have HWn := Lib.hid (grown_trans' HW.out gn); clear gn q0 q1 q2 HB HW; have HB := HBn; have HW := HWn; clear HBn HWn; have q0 := HB.out.at_ (i := 0) (v := .int .i64 3) (by rw [← HKD.out]; rfl); have q1 := HB.out.at_ (i := 1) (v := .string m.c) (by rfl); have q2 := HB.out.at_ (i := 2) (v := .string m.s) (by rfl)))
  go_ret
  exact ⟨rfl, HW.out⟩
set_option maxRecDepth 10000 in
set_option maxHeartbeats 1000000 in
theorem refRight_3_2 (w : World) {n6 n7 : Nat} (hn6 : m.t.length = n6) (hn7 : m.sl.length = n7) (hk : m.kd = 3) (hc : m.c.size ≤ 10000) (hs : m.s.size ≤ 10000) (h32 : m.c = ⟨#[]⟩) (h33 : m.s = ⟨#[]⟩) (h35 : decide (m.en < 0) = true) :
    Calls Tryd.prog 27 #[.agg (kcells m T tc S sc).toArray] w fun e w' => e = .returned (.bool false) ∧ w.grownBy w' none := by
  have HB := Lib.hid (CB.new w 26 (kcells m T tc S sc))
  have HW := Lib.hid (grown_alloc w (.cells (kcells m T tc S sc).toArray 26) none)
  have HLC := Lib.hid (show m.c.data.toList.length ≤ 10000 from hc)
  have HLS := Lib.hid (show m.s.data.toList.length ≤ 10000 from hs)
  have HKD := Lib.hid hk
  have HN6 := Lib.hid hn6
  have HN7 := Lib.hid hn7
  have eh32 := ba_emp h32
  have eh33 := ba_emp h33
  clear hk hc hs hn6 hn7 h32 h33
  have q0 := HB.out.at_ (i := 0) (v := .int .i64 3) (by rw [← HKD.out]; rfl); have q1 := HB.out.at_ (i := 1) (v := .string m.c) (by rfl); have q2 := HB.out.at_ (i := 2) (v := .string m.s) (by rfl); have q4 := HB.out.at_ (i := 4) (v := .int .i64 m.en) (by rfl)
  go_enter Tryd.func27, Tryd.ntmps27
  go_wp2_with (first
  | (go_at_call 26; refine (refHas_any _ _ _).mono ?_; rintro r wn ⟨rfl, gn⟩; (first | rw [show (tagsK 3).contains 32 = false from by decide] | rw [show (tagsK 3).contains 33 = false from by decide] | rw [show (tagsK 3).contains 35 = false from by decide]); have HBn := Lib.hid (HB.out.kept gn); have HWn := Lib.hid (grown_trans' HW.out gn); clear gn q0 q1 q2 q4 HB HW; have HB := HBn; have HW := HWn; clear HBn HWn; have q0 := HB.out.at_ (i := 0) (v := .int .i64 3) (by rw [← HKD.out]; rfl); have q1 := HB.out.at_ (i := 1) (v := .string m.c) (by rfl); have q2 := HB.out.at_ (i := 2) (v := .string m.s) (by rfl); have q4 := HB.out.at_ (i := 4) (v := .int .i64 m.en) (by rfl)))
  go_ret
  exact ⟨rfl, HW.out⟩
set_option maxRecDepth 10000 in
set_option maxHeartbeats 1000000 in
theorem refRight_3_3 (w : World) {n6 n7 : Nat} (hn6 : m.t.length = n6) (hn7 : m.sl.length = n7) (hk : m.kd = 3) (hc : m.c.size ≤ 10000) (hs : m.s.size ≤ 10000) (h32 : m.c = ⟨#[]⟩) (h33 : m.s = ⟨#[]⟩) (h35 : decide (m.en < 0) = false) (g35 : decide (1099511627776 < m.en) = true) :
    Calls Tryd.prog 27 #[.agg (kcells m T tc S sc).toArray] w fun e w' => e = .returned (.bool false) ∧ w.grownBy w' none := by
  have HB := Lib.hid (CB.new w 26 (kcells m T tc S sc))
  have HW := Lib.hid (grown_alloc w (.cells (kcells m T tc S sc).toArray 26) none)
  have HLC := Lib.hid (show m.c.data.toList.length ≤ 10000 from hc)
  have HLS := Lib.hid (show m.s.data.toList.length ≤ 10000 from hs)
  have HKD := Lib.hid hk
  have HN6 := Lib.hid hn6
  have HN7 := Lib.hid hn7
  have eh32 := ba_emp h32
  have eh33 := ba_emp h33
  clear hk hc hs hn6 hn7 h32 h33
  have q0 := HB.out.at_ (i := 0) (v := .int .i64 3) (by rw [← HKD.out]; rfl); have q1 := HB.out.at_ (i := 1) (v := .string m.c) (by rfl); have q2 := HB.out.at_ (i := 2) (v := .string m.s) (by rfl); have q4 := HB.out.at_ (i := 4) (v := .int .i64 m.en) (by rfl)
  go_enter Tryd.func27, Tryd.ntmps27
  go_wp2_with (first
  | (go_at_call 26; refine (refHas_any _ _ _).mono ?_; rintro r wn ⟨rfl, gn⟩; (first | rw [show (tagsK 3).contains 32 = false from by decide] | rw [show (tagsK 3).contains 33 = false from by decide] | rw [show (tagsK 3).contains 35 = false from by decide]); have HBn := Lib.hid (HB.out.kept gn); have HWn := Lib.hid (grown_trans' HW.out gn); clear gn q0 q1 q2 q4 HB HW; have HB := HBn; have HW := HWn; clear HBn HWn; have q0 := HB.out.at_ (i := 0) (v := .int .i64 3) (by rw [← HKD.out]; rfl); have q1 := HB.out.at_ (i := 1) (v := .string m.c) (by rfl); have q2 := HB.out.at_ (i := 2) (v := .string m.s) (by rfl); have q4 := HB.out.at_ (i := 4) (v := .int .i64 m.en) (by rfl)))
  go_ret
  exact ⟨rfl, HW.out⟩
set_option maxRecDepth 10000 in
set_option maxHeartbeats 1000000 in
theorem refRight_3_4 (w : World) {n6 n7 : Nat} (hn6 : m.t.length = n6) (hn7 : m.sl.length = n7) (hk : m.kd = 3) (hc : m.c.size ≤ 10000) (hs : m.s.size ≤ 10000) (h32 : m.c = ⟨#[]⟩) (h33 : m.s = ⟨#[]⟩) (h35 : decide (m.en < 0) = false) (g35 : decide (1099511627776 < m.en) = false) (z35 : m.en ≠ 0) :
    Calls Tryd.prog 27 #[.agg (kcells m T tc S sc).toArray] w fun e w' => e = .returned (.bool false) ∧ w.grownBy w' none := by
  have HB := Lib.hid (CB.new w 26 (kcells m T tc S sc))
  have HW := Lib.hid (grown_alloc w (.cells (kcells m T tc S sc).toArray 26) none)
  have HLC := Lib.hid (show m.c.data.toList.length ≤ 10000 from hc)
  have HLS := Lib.hid (show m.s.data.toList.length ≤ 10000 from hs)
  have HKD := Lib.hid hk
  have HN6 := Lib.hid hn6
  have HN7 := Lib.hid hn7
  have eh32 := ba_emp h32
  have eh33 := ba_emp h33
  have az35 : (m.en == 0) = false := beq_eq_false_iff_ne.2 z35
  have bz35 : (m.en != 0) = true := by rw [bne, az35]; rfl
  have cz35 : decide (m.en = 0) = false := decide_eq_false z35
  clear hk hc hs hn6 hn7 h32 h33 z35
  have q0 := HB.out.at_ (i := 0) (v := .int .i64 3) (by rw [← HKD.out]; rfl); have q1 := HB.out.at_ (i := 1) (v := .string m.c) (by rfl); have q2 := HB.out.at_ (i := 2) (v := .string m.s) (by rfl); have q4 := HB.out.at_ (i := 4) (v := .int .i64 m.en) (by rfl)
  go_enter Tryd.func27, Tryd.ntmps27
  go_wp2_with (first
  | (go_at_call 26; refine (refHas_any _ _ _).mono ?_; rintro r wn ⟨rfl, gn⟩; (first | rw [show (tagsK 3).contains 32 = false from by decide] | rw [show (tagsK 3).contains 33 = false from by decide] | rw [show (tagsK 3).contains 35 = false from by decide]); have HBn := Lib.hid (HB.out.kept gn); have HWn := Lib.hid (grown_trans' HW.out gn); clear gn q0 q1 q2 q4 HB HW; have HB := HBn; have HW := HWn; clear HBn HWn; have q0 := HB.out.at_ (i := 0) (v := .int .i64 3) (by rw [← HKD.out]; rfl); have q1 := HB.out.at_ (i := 1) (v := .string m.c) (by rfl); have q2 := HB.out.at_ (i := 2) (v := .string m.s) (by rfl); have q4 := HB.out.at_ (i := 4) (v := .int .i64 m.en) (by rfl)))
  go_ret
  exact ⟨rfl, HW.out⟩
set_option maxRecDepth 10000 in
set_option maxHeartbeats 1000000 in
theorem refRight_3_5 (w : World) {n6 n7 : Nat} (hn6 : m.t.length = n6) (hn7 : m.sl.length = n7) (hk : m.kd = 3) (hc : m.c.size ≤ 10000) (hs : m.s.size ≤ 10000) (h32 : m.c = ⟨#[]⟩) (h33 : m.s = ⟨#[]⟩) (z35 : m.en = 0) (h36 : decide (m.fl < 0) = true) :
    Calls Tryd.prog 27 #[.agg (kcells m T tc S sc).toArray] w fun e w' => e = .returned (.bool false) ∧ w.grownBy w' none := by
  have HB := Lib.hid (CB.new w 26 (kcells m T tc S sc))
  have HW := Lib.hid (grown_alloc w (.cells (kcells m T tc S sc).toArray 26) none)
  have HLC := Lib.hid (show m.c.data.toList.length ≤ 10000 from hc)
  have HLS := Lib.hid (show m.s.data.toList.length ≤ 10000 from hs)
  have HKD := Lib.hid hk
  have HN6 := Lib.hid hn6
  have HN7 := Lib.hid hn7
  have eh32 := ba_emp h32
  have eh33 := ba_emp h33
  have Hz35 := Lib.hid z35
  clear hk hc hs hn6 hn7 h32 h33 z35
  have q0 := HB.out.at_ (i := 0) (v := .int .i64 3) (by rw [← HKD.out]; rfl); have q1 := HB.out.at_ (i := 1) (v := .string m.c) (by rfl); have q2 := HB.out.at_ (i := 2) (v := .string m.s) (by rfl); have q4 := HB.out.at_ (i := 4) (v := .int .i64 0) (by rw [← Hz35.out]; rfl); have q5 := HB.out.at_ (i := 5) (v := .int .i64 m.fl) (by rfl)
  go_enter Tryd.func27, Tryd.ntmps27
  go_wp2_with (first
  | (go_at_call 26; refine (refHas_any _ _ _).mono ?_; rintro r wn ⟨rfl, gn⟩; (first | rw [show (tagsK 3).contains 32 = false from by decide] | rw [show (tagsK 3).contains 33 = false from by decide] | rw [show (tagsK 3).contains 35 = false from by decide] | rw [show (tagsK 3).contains 36 = false from by decide]); have HBn := Lib.hid (HB.out.kept gn); have HWn := Lib.hid (grown_trans' HW.out gn); clear gn q0 q1 q2 q4 q5 HB HW; have HB := HBn; have HW := HWn; clear HBn HWn; have q0 := HB.out.at_ (i := 0) (v := .int .i64 3) (by rw [← HKD.out]; rfl); have q1 := HB.out.at_ (i := 1) (v := .string m.c) (by rfl); have q2 := HB.out.at_ (i := 2) (v := .string m.s) (by rfl); have q4 := HB.out.at_ (i := 4) (v := .int .i64 0) (by rw [← Hz35.out]; rfl); have q5 := HB.out.at_ (i := 5) (v := .int .i64 m.fl) (by rfl)))
  go_ret
  exact ⟨rfl, HW.out⟩
set_option maxRecDepth 10000 in
set_option maxHeartbeats 1000000 in
theorem refRight_3_6 (w : World) {n6 n7 : Nat} (hn6 : m.t.length = n6) (hn7 : m.sl.length = n7) (hk : m.kd = 3) (hc : m.c.size ≤ 10000) (hs : m.s.size ≤ 10000) (h32 : m.c = ⟨#[]⟩) (h33 : m.s = ⟨#[]⟩) (z35 : m.en = 0) (h36 : decide (m.fl < 0) = false) (g36 : decide (3 < m.fl) = true) :
    Calls Tryd.prog 27 #[.agg (kcells m T tc S sc).toArray] w fun e w' => e = .returned (.bool false) ∧ w.grownBy w' none := by
  have HB := Lib.hid (CB.new w 26 (kcells m T tc S sc))
  have HW := Lib.hid (grown_alloc w (.cells (kcells m T tc S sc).toArray 26) none)
  have HLC := Lib.hid (show m.c.data.toList.length ≤ 10000 from hc)
  have HLS := Lib.hid (show m.s.data.toList.length ≤ 10000 from hs)
  have HKD := Lib.hid hk
  have HN6 := Lib.hid hn6
  have HN7 := Lib.hid hn7
  have eh32 := ba_emp h32
  have eh33 := ba_emp h33
  have Hz35 := Lib.hid z35
  clear hk hc hs hn6 hn7 h32 h33 z35
  have q0 := HB.out.at_ (i := 0) (v := .int .i64 3) (by rw [← HKD.out]; rfl); have q1 := HB.out.at_ (i := 1) (v := .string m.c) (by rfl); have q2 := HB.out.at_ (i := 2) (v := .string m.s) (by rfl); have q4 := HB.out.at_ (i := 4) (v := .int .i64 0) (by rw [← Hz35.out]; rfl); have q5 := HB.out.at_ (i := 5) (v := .int .i64 m.fl) (by rfl)
  go_enter Tryd.func27, Tryd.ntmps27
  go_wp2_with (first
  | (go_at_call 26; refine (refHas_any _ _ _).mono ?_; rintro r wn ⟨rfl, gn⟩; (first | rw [show (tagsK 3).contains 32 = false from by decide] | rw [show (tagsK 3).contains 33 = false from by decide] | rw [show (tagsK 3).contains 35 = false from by decide] | rw [show (tagsK 3).contains 36 = false from by decide]); have HBn := Lib.hid (HB.out.kept gn); have HWn := Lib.hid (grown_trans' HW.out gn); clear gn q0 q1 q2 q4 q5 HB HW; have HB := HBn; have HW := HWn; clear HBn HWn; have q0 := HB.out.at_ (i := 0) (v := .int .i64 3) (by rw [← HKD.out]; rfl); have q1 := HB.out.at_ (i := 1) (v := .string m.c) (by rfl); have q2 := HB.out.at_ (i := 2) (v := .string m.s) (by rfl); have q4 := HB.out.at_ (i := 4) (v := .int .i64 0) (by rw [← Hz35.out]; rfl); have q5 := HB.out.at_ (i := 5) (v := .int .i64 m.fl) (by rfl)))
  go_ret
  exact ⟨rfl, HW.out⟩
set_option maxRecDepth 10000 in
set_option maxHeartbeats 1000000 in
theorem refRight_3_7 (w : World) {n6 n7 : Nat} (hn6 : m.t.length = n6) (hn7 : m.sl.length = n7) (hk : m.kd = 3) (hc : m.c.size ≤ 10000) (hs : m.s.size ≤ 10000) (h32 : m.c = ⟨#[]⟩) (h33 : m.s = ⟨#[]⟩) (z35 : m.en = 0) (h36 : decide (m.fl < 0) = false) (g36 : decide (3 < m.fl) = false) (z36 : m.fl ≠ 0) :
    Calls Tryd.prog 27 #[.agg (kcells m T tc S sc).toArray] w fun e w' => e = .returned (.bool false) ∧ w.grownBy w' none := by
  have HB := Lib.hid (CB.new w 26 (kcells m T tc S sc))
  have HW := Lib.hid (grown_alloc w (.cells (kcells m T tc S sc).toArray 26) none)
  have HLC := Lib.hid (show m.c.data.toList.length ≤ 10000 from hc)
  have HLS := Lib.hid (show m.s.data.toList.length ≤ 10000 from hs)
  have HKD := Lib.hid hk
  have HN6 := Lib.hid hn6
  have HN7 := Lib.hid hn7
  have eh32 := ba_emp h32
  have eh33 := ba_emp h33
  have Hz35 := Lib.hid z35
  have az36 : (m.fl == 0) = false := beq_eq_false_iff_ne.2 z36
  have bz36 : (m.fl != 0) = true := by rw [bne, az36]; rfl
  have cz36 : decide (m.fl = 0) = false := decide_eq_false z36
  clear hk hc hs hn6 hn7 h32 h33 z35 z36
  have q0 := HB.out.at_ (i := 0) (v := .int .i64 3) (by rw [← HKD.out]; rfl); have q1 := HB.out.at_ (i := 1) (v := .string m.c) (by rfl); have q2 := HB.out.at_ (i := 2) (v := .string m.s) (by rfl); have q4 := HB.out.at_ (i := 4) (v := .int .i64 0) (by rw [← Hz35.out]; rfl); have q5 := HB.out.at_ (i := 5) (v := .int .i64 m.fl) (by rfl)
  go_enter Tryd.func27, Tryd.ntmps27
  go_wp2_with (first
  | (go_at_call 26; refine (refHas_any _ _ _).mono ?_; rintro r wn ⟨rfl, gn⟩; (first | rw [show (tagsK 3).contains 32 = false from by decide] | rw [show (tagsK 3).contains 33 = false from by decide] | rw [show (tagsK 3).contains 35 = false from by decide] | rw [show (tagsK 3).contains 36 = false from by decide]); have HBn := Lib.hid (HB.out.kept gn); have HWn := Lib.hid (grown_trans' HW.out gn); clear gn q0 q1 q2 q4 q5 HB HW; have HB := HBn; have HW := HWn; clear HBn HWn; have q0 := HB.out.at_ (i := 0) (v := .int .i64 3) (by rw [← HKD.out]; rfl); have q1 := HB.out.at_ (i := 1) (v := .string m.c) (by rfl); have q2 := HB.out.at_ (i := 2) (v := .string m.s) (by rfl); have q4 := HB.out.at_ (i := 4) (v := .int .i64 0) (by rw [← Hz35.out]; rfl); have q5 := HB.out.at_ (i := 5) (v := .int .i64 m.fl) (by rfl)))
  go_ret
  exact ⟨rfl, HW.out⟩
set_option maxRecDepth 10000 in
set_option maxHeartbeats 1000000 in
theorem refRight_3_8 (w : World) {n6 n7 : Nat} (hn6 : m.t.length = n6) (hn7 : m.sl.length = n7) (hk : m.kd = 3) (hc : m.c.size ≤ 10000) (hs : m.s.size ≤ 10000) (h32 : m.c = ⟨#[]⟩) (h33 : m.s = ⟨#[]⟩) (z35 : m.en = 0) (z36 : m.fl = 0) (h37 : decide ((3000 : Int) < ((n6 : Nat) : Int)) = true) :
    Calls Tryd.prog 27 #[.agg (kcells m T tc S sc).toArray] w fun e w' => e = .returned (.bool false) ∧ w.grownBy w' none := by
  have HB := Lib.hid (CB.new w 26 (kcells m T tc S sc))
  have HW := Lib.hid (grown_alloc w (.cells (kcells m T tc S sc).toArray 26) none)
  have HLC := Lib.hid (show m.c.data.toList.length ≤ 10000 from hc)
  have HLS := Lib.hid (show m.s.data.toList.length ≤ 10000 from hs)
  have HKD := Lib.hid hk
  have HN6 := Lib.hid hn6
  have HN7 := Lib.hid hn7
  have eh32 := ba_emp h32
  have eh33 := ba_emp h33
  have Hz35 := Lib.hid z35
  have Hz36 := Lib.hid z36
  clear hk hc hs hn6 hn7 h32 h33 z35 z36
  have q0 := HB.out.at_ (i := 0) (v := .int .i64 3) (by rw [← HKD.out]; rfl); have q1 := HB.out.at_ (i := 1) (v := .string m.c) (by rfl); have q2 := HB.out.at_ (i := 2) (v := .string m.s) (by rfl); have q4 := HB.out.at_ (i := 4) (v := .int .i64 0) (by rw [← Hz35.out]; rfl); have q5 := HB.out.at_ (i := 5) (v := .int .i64 0) (by rw [← Hz36.out]; rfl); have q6 := HB.out.at_ (i := 6) (v := .slice T n6 tc) (by rw [← HN6.out]; rfl)
  go_enter Tryd.func27, Tryd.ntmps27
  go_wp2_with (first
  | (go_at_call 26; refine (refHas_any _ _ _).mono ?_; rintro r wn ⟨rfl, gn⟩; (first | rw [show (tagsK 3).contains 32 = false from by decide] | rw [show (tagsK 3).contains 33 = false from by decide] | rw [show (tagsK 3).contains 35 = false from by decide] | rw [show (tagsK 3).contains 36 = false from by decide] | rw [show (tagsK 3).contains 37 = true from by decide]); have HBn := Lib.hid (HB.out.kept gn); have HWn := Lib.hid (grown_trans' HW.out gn); clear gn q0 q1 q2 q4 q5 q6 HB HW; have HB := HBn; have HW := HWn; clear HBn HWn; have q0 := HB.out.at_ (i := 0) (v := .int .i64 3) (by rw [← HKD.out]; rfl); have q1 := HB.out.at_ (i := 1) (v := .string m.c) (by rfl); have q2 := HB.out.at_ (i := 2) (v := .string m.s) (by rfl); have q4 := HB.out.at_ (i := 4) (v := .int .i64 0) (by rw [← Hz35.out]; rfl); have q5 := HB.out.at_ (i := 5) (v := .int .i64 0) (by rw [← Hz36.out]; rfl); have q6 := HB.out.at_ (i := 6) (v := .slice T n6 tc) (by rw [← HN6.out]; rfl)))
  go_ret
  exact ⟨rfl, HW.out⟩
set_option maxRecDepth 10000 in
set_option maxHeartbeats 1000000 in
theorem refRight_3_9 (w : World) {n6 n7 : Nat} (hn6 : m.t.length = n6) (hn7 : m.sl.length = n7) (hk : m.kd = 3) (hc : m.c.size ≤ 10000) (hs : m.s.size ≤ 10000) (h32 : m.c = ⟨#[]⟩) (h33 : m.s = ⟨#[]⟩) (z35 : m.en = 0) (z36 : m.fl = 0) (h37 : decide ((3000 : Int) < ((n6 : Nat) : Int)) = false) (h38 : decide ((3000 : Int) < ((n7 : Nat) : Int)) = true) :
    Calls Tryd.prog 27 #[.agg (kcells m T tc S sc).toArray] w fun e w' => e = .returned (.bool false) ∧ w.grownBy w' none := by
  have HB := Lib.hid (CB.new w 26 (kcells m T tc S sc))
  have HW := Lib.hid (grown_alloc w (.cells (kcells m T tc S sc).toArray 26) none)
  have HLC := Lib.hid (show m.c.data.toList.length ≤ 10000 from hc)
  have HLS := Lib.hid (show m.s.data.toList.length ≤ 10000 from hs)
  have HKD := Lib.hid hk
  have HN6 := Lib.hid hn6
  have HN7 := Lib.hid hn7
  have eh32 := ba_emp h32
  have eh33 := ba_emp h33
  have Hz35 := Lib.hid z35
  have Hz36 := Lib.hid z36
  clear hk hc hs hn6 hn7 h32 h33 z35 z36
  have q0 := HB.out.at_ (i := 0) (v := .int .i64 3) (by rw [← HKD.out]; rfl); have q1 := HB.out.at_ (i := 1) (v := .string m.c) (by rfl); have q2 := HB.out.at_ (i := 2) (v := .string m.s) (by rfl); have q4 := HB.out.at_ (i := 4) (v := .int .i64 0) (by rw [← Hz35.out]; rfl); have q5 := HB.out.at_ (i := 5) (v := .int .i64 0) (by rw [← Hz36.out]; rfl); have q6 := HB.out.at_ (i := 6) (v := .slice T n6 tc) (by rw [← HN6.out]; rfl); have q7 := HB.out.at_ (i := 7) (v := .slice S n7 sc) (by rw [← HN7.out]; rfl)
  go_enter Tryd.func27, Tryd.ntmps27
  go_wp2_with (first
  | (go_at_call 26; refine (refHas_any _ _ _).mono ?_; rintro r wn ⟨rfl, gn⟩; (first | rw [show (tagsK 3).contains 32 = false from by decide] | rw [show (tagsK 3).contains 33 = false from by decide] | rw [show (tagsK 3).contains 35 = false from by decide] | rw [show (tagsK 3).contains 36 = false from by decide] | rw [show (tagsK 3).contains 37 = true from by decide] | rw [show (tagsK 3).contains 38 = true from by decide]); have HBn := Lib.hid (HB.out.kept gn); have HWn := Lib.hid (grown_trans' HW.out gn); clear gn q0 q1 q2 q4 q5 q6 q7 HB HW; have HB := HBn; have HW := HWn; clear HBn HWn; have q0 := HB.out.at_ (i := 0) (v := .int .i64 3) (by rw [← HKD.out]; rfl); have q1 := HB.out.at_ (i := 1) (v := .string m.c) (by rfl); have q2 := HB.out.at_ (i := 2) (v := .string m.s) (by rfl); have q4 := HB.out.at_ (i := 4) (v := .int .i64 0) (by rw [← Hz35.out]; rfl); have q5 := HB.out.at_ (i := 5) (v := .int .i64 0) (by rw [← Hz36.out]; rfl); have q6 := HB.out.at_ (i := 6) (v := .slice T n6 tc) (by rw [← HN6.out]; rfl); have q7 := HB.out.at_ (i := 7) (v := .slice S n7 sc) (by rw [← HN7.out]; rfl)))
  go_ret
  exact ⟨rfl, HW.out⟩
set_option maxRecDepth 10000 in
set_option maxHeartbeats 1000000 in
theorem refRight_3_10 (w : World) {n6 n7 : Nat} (hn6 : m.t.length = n6) (hn7 : m.sl.length = n7) (hk : m.kd = 3) (hc : m.c.size ≤ 10000) (hs : m.s.size ≤ 10000) (h32 : m.c = ⟨#[]⟩) (h33 : m.s = ⟨#[]⟩) (z35 : m.en = 0) (z36 : m.fl = 0) (h37 : decide ((3000 : Int) < ((n6 : Nat) : Int)) = false) (h38 : decide ((3000 : Int) < ((n7 : Nat) : Int)) = false) :
    Calls Tryd.prog 27 #[.agg (kcells m T tc S sc).toArray] w fun e w' => e = .returned (.bool (decide (m.co = 0))) ∧ w.grownBy w' none := by
  have HB := Lib.hid (CB.new w 26 (kcells m T tc S sc))
  have HW := Lib.hid (grown_alloc w (.cells (kcells m T tc S sc).toArray 26) none)
  have HLC := Lib.hid (show m.c.data.toList.length ≤ 10000 from hc)
  have HLS := Lib.hid (show m.s.data.toList.length ≤ 10000 from hs)
  have HKD := Lib.hid hk
  have HN6 := Lib.hid hn6
  have HN7 := Lib.hid hn7
  have eh32 := ba_emp h32
  have eh33 := ba_emp h33
  have Hz35 := Lib.hid z35
  have Hz36 := Lib.hid z36
  clear hk hc hs hn6 hn7 h32 h33 z35 z36
  have q0 := HB.out.at_ (i := 0) (v := .int .i64 3) (by rw [← HKD.out]; rfl); have q1 := HB.out.at_ (i := 1) (v := .string m.c) (by rfl); have q2 := HB.out.at_ (i := 2) (v := .string m.s) (by rfl); have q4 := HB.out.at_ (i := 4) (v := .int .i64 0) (by rw [← Hz35.out]; rfl); have q5 := HB.out.at_ (i := 5) (v := .int .i64 0) (by rw [← Hz36.out]; rfl); have q6 := HB.out.at_ (i := 6) (v := .slice T n6 tc) (by rw [← HN6.out]; rfl); have q7 := HB.out.at_ (i := 7) (v := .slice S n7 sc) (by rw [← HN7.out]; rfl); have q8 := HB.out.at_ (i := 8) (v := .int .i64 m.co) (by rfl)
  go_enter Tryd.func27, Tryd.ntmps27
  go_wp2_with (first
  | (go_at_call 26; refine (refHas_any _ _ _).mono ?_; rintro r wn ⟨rfl, gn⟩; (first | rw [show (tagsK 3).contains 32 = false from by decide] | rw [show (tagsK 3).contains 33 = false from by decide] | rw [show (tagsK 3).contains 35 = false from by decide] | rw [show (tagsK 3).contains 36 = false from by decide] | rw [show (tagsK 3).contains 37 = true from by decide] | rw [show (tagsK 3).contains 38 = true from by decide] | rw [show (tagsK 3).contains 39 = false from by decide]); have HBn := Lib.hid (HB.out.kept gn); have HWn := Lib.hid (grown_trans' HW.out gn); clear gn q0 q1 q2 q4 q5 q6 q7 q8 HB HW; have HB := HBn; have HW := HWn; clear HBn HWn; have q0 := HB.out.at_ (i := 0) (v := .int .i64 3) (by rw [← HKD.out]; rfl); have q1 := HB.out.at_ (i := 1) (v := .string m.c) (by rfl); have q2 := HB.out.at_ (i := 2) (v := .string m.s) (by rfl); have q4 := HB.out.at_ (i := 4) (v := .int .i64 0) (by rw [← Hz35.out]; rfl); have q5 := HB.out.at_ (i := 5) (v := .int .i64 0) (by rw [← Hz36.out]; rfl); have q6 := HB.out.at_ (i := 6) (v := .slice T n6 tc) (by rw [← HN6.out]; rfl); have q7 := HB.out.at_ (i := 7) (v := .slice S n7 sc) (by rw [← HN7.out]; rfl); have q8 := HB.out.at_ (i := 8) (v := .int .i64 m.co) (by rfl)))
  go_ret
  exact ⟨rfl, HW.out⟩
end Go.Proofs.YtnfmbgmncdodkaaDoor
