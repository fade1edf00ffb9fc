/- The walks of a byte that comes to a Reader. -/
import Derived.Test.YtcfhpoigfkljpaaTlc
namespace Go.Proofs.Ytcfhpoigfkljpaa
open Go.ChangeShapes Go.WideShapes Go.RowKit

/-- Parts that aren't too many, nor too long. -/
def OkP (ps : List Tl) : Prop := ps.length ≤ 1000000 ∧ ∀ q ∈ ps, q.data.length ≤ 1000000000000
theorem isVerb_any (x : Int) (w : World) : Calls Try.prog 32 #[.int .i64 x] w fun e w' => e = .returned (.bool (decide (251 ≤ x) && decide (x ≤ 254))) ∧ w' = w := by
  by_cases h1 : 251 ≤ x
  · by_cases h2 : x ≤ 254
    · go_enter Try.func32, Try.ntmps32
      go_wp2
      go_ret
      exact ⟨by rw [decide_eq_true h1, decide_eq_true h2]; rfl, rfl⟩
    · go_enter Try.func32, Try.ntmps32
      go_wp2
      go_ret
      simp [h2]
  · go_enter Try.func32, Try.ntmps32
    go_wp2
    go_ret
    exact ⟨by rw [decide_eq_false (show ¬ 251 ≤ x by omega)]; rfl, rfl⟩
section
variable {w : World} {b2 base r : Nat} {pv v : Value} {vs : List Value} {s : Ts} {ps : List Tl} {c : UInt8}
theorem joins_other {p : Tl} (h : p.kind ≠ 1) : joins ps (some p) = ps ++ [p] := by
  show join ps p = _
  unfold join
  rw [if_neg (fun e => h e.1)]
set_option maxHeartbeats 1000000 in
theorem iac_255 (h : TX w b2 base r pv v vs s ps) (h1 : s.beh = 1) (ok : OkP ps) (hb : base ≤ w.heap.size) (hb2 : b2 ≤ w.heap.size) (hc : c.toNat = 255) :
    Calls Try.prog 34 #[.pointer (some ⟨r, 0, none⟩), .int .u8 (c.toNat : Int), v] w fun e w' => ∃ v', e = .returned v' ∧ TR w w' b2 base r pv v vs v' (step s c).1 (joins ps (step s c).2) := by
  have hT : step s c = (⟨0, s.part, s.err⟩, some ⟨1, 0, 0, [c]⟩) := by unfold step; rw [if_neg (by omega), if_pos h1, if_pos hc]
  rw [hT]
  have OK := Lib.hid ok
  have HBa := Lib.hid hb
  have HB2a := Lib.hid hb2
  have C0 := Lib.hid h.rd.2.1
  have H := Lib.hid h
  have k0 : w.cell? ⟨r, 0, none⟩ = some (.int .i64 (s.beh : Int)) := h.rd.2.1.at_ rfl
  obtain ⟨x, hx⟩ : ∃ x, (c.toNat : Int) = x := ⟨_, rfl⟩
  have e255 : (x == 255) = true := by rw [beq_iff_eq]; omega
  have hwx : IntKind.i64.wrap x = x := by have := c.toNat_lt; simp [IntKind.wrap, IntKind.bits, IntKind.signed]; omega
  have HX := Lib.hid hx
  rw [hx]
  clear h ok hb hb2 hT h1 hx hc
  go_enter Try.func34, Try.ntmps34
  go_wp2_with (first
    | (refine wpList_setC (off := 0) szI rfl (.tmp 9) (.const (.int .i64 0)) rfl .i64 0 C0.out (by simp) (by first | rfl | go_simp) (by first | rfl | go_simp) ?_; intro w1 h1 g1; have D1 := Lib.hid (H.out.rd.cells (s' := ⟨0, s.part, s.err⟩) (v' := pv) h1 g1 (.inl ⟨rfl, rfl⟩)); clear h1 g1; have X1 := Lib.hid (H.out.rdX D1.out.1 D1.out.2.1 D1.out.2.2); have HB := Lib.hid (Nat.le_trans HBa.out D1.out.2.1.size); have HB2 := Lib.hid (Nat.le_trans HB2a.out D1.out.2.1.size); have C1 := Lib.hid D1.out.1.2.1)
    | (go_at_call 33; rw [← HX.out]; refine (withData_any X1.out.row (List.pairwise_cons.1 X1.out.ap).2 OK.out.1 OK.out.2 HB.out HB2.out c).mono ?_; rintro e wz ⟨vz, rfl, rz⟩; have RZ := Lib.hid rz; clear rz))
  go_ret
  exact ⟨_, rfl, TR.next D1.out.2.1 D1.out.2.2 (X1.out.parts RZ.out)⟩
set_option maxHeartbeats 1000000 in
theorem iac_verb (h : TX w b2 base r pv v vs s ps) (h1 : s.beh = 1) (ok : OkP ps) (hb : base ≤ w.heap.size) (hb2 : b2 ≤ w.heap.size) (hc : 251 ≤ c.toNat ∧ c.toNat ≠ 255) :
    Calls Try.prog 34 #[.pointer (some ⟨r, 0, none⟩), .int .u8 (c.toNat : Int), v] w fun e w' => ∃ v', e = .returned v' ∧ TR w w' b2 base r pv v vs v' (step s c).1 (joins ps (step s c).2) := by
  have hT : step s c = (⟨2, ⟨2, (c.toNat : Int), 0, []⟩, s.err⟩, none) := by unfold step; rw [if_neg (by omega), if_pos h1, if_neg (by omega), if_pos (by omega)]
  rw [hT]
  have OK := Lib.hid ok
  have HBa := Lib.hid hb
  have HB2a := Lib.hid hb2
  have C0 := Lib.hid h.rd.2.1
  have H := Lib.hid h
  have k0 : w.cell? ⟨r, 0, none⟩ = some (.int .i64 (s.beh : Int)) := h.rd.2.1.at_ rfl
  obtain ⟨x, hx⟩ : ∃ x, (c.toNat : Int) = x := ⟨_, rfl⟩
  have e255 : (x == 255) = false := by rw [beq_eq_false_iff_ne]; omega
  have hwx : IntKind.i64.wrap x = x := by have := c.toNat_lt; simp [IntKind.wrap, IntKind.bits, IntKind.signed]; omega
  have HX := Lib.hid hx
  rw [hx]
  have hvb : (decide (251 ≤ x) && decide (x ≤ 254)) = true := by have := c.toNat_lt; simp; omega
  clear h ok hb hb2 hT h1 hx hc
  go_enter Try.func34, Try.ntmps34
  go_wp2_with (first
    | (refine wpList_setC (off := 0) szI rfl (.tmp 9) (.const (.int .i64 0)) rfl .i64 0 C0.out (by simp) (by first | rfl | go_simp) (by first | rfl | go_simp) ?_; intro w1 h1 g1; have D1 := Lib.hid (H.out.rd.cells (s' := ⟨0, s.part, s.err⟩) (v' := pv) h1 g1 (.inl ⟨rfl, rfl⟩)); clear h1 g1; have X1 := Lib.hid (H.out.rdX D1.out.1 D1.out.2.1 D1.out.2.2); have HB := Lib.hid (Nat.le_trans HBa.out D1.out.2.1.size); have HB2 := Lib.hid (Nat.le_trans HB2a.out D1.out.2.1.size); have C1 := Lib.hid D1.out.1.2.1)
    | (go_at_call 32; refine (isVerb_any x _).mono ?_; rw [hvb]; rintro e wv ⟨rfl, rfl⟩)
    | (refine wpList_setC (off := 0) szI rfl (.tmp 26) (.const (.int .i64 2)) rfl .i64 2 C1.out (by simp) (by first | rfl | go_simp) (by first | rfl | go_simp) ?_; intro w2 h2 g2; have C2 := Lib.hid h2; have G2 := Lib.hid g2; clear h2 g2)
    | (refine wpList_storeC (off := 1) (p := [.int .i64 2, .int .i64 x, .int .i64 0, .slice none 0 0]) szT rfl (.tmp 28) (.tmp 24) rfl (.agg #[.int .i64 2, .int .i64 x, .int .i64 0, .slice none 0 0]) rfl (fun u hu => by simp at hu; rcases hu with rfl | rfl | rfl | rfl <;> rfl) C2.out rfl (by simp) (by first | rfl | go_simp) (by first | rfl | go_simp) ?_; intro w3 h3 g3; have D3 := Lib.hid (X1.out.rd.cells (s' := ⟨2, ⟨2, x, 0, []⟩, s.err⟩) (v' := .slice none 0 0) h3 (grown_trans' G2.out g3) (.inr ⟨rfl, rfl⟩)); clear h3 g3))
  go_ret
  exact ⟨_, rfl, TR.next D1.out.2.1 D1.out.2.2 (X1.out.reader D3.out.1 D3.out.2.1 D3.out.2.2)⟩
set_option maxHeartbeats 1000000 in
theorem iac_sb (h : TX w b2 base r pv v vs s ps) (h1 : s.beh = 1) (ok : OkP ps) (hb : base ≤ w.heap.size) (hb2 : b2 ≤ w.heap.size) (hc : c.toNat = 250) :
    Calls Try.prog 34 #[.pointer (some ⟨r, 0, none⟩), .int .u8 (c.toNat : Int), v] w fun e w' => ∃ v', e = .returned v' ∧ TR w w' b2 base r pv v vs v' (step s c).1 (joins ps (step s c).2) := by
  have hT : step s c = (⟨3, ⟨3, 0, 0, []⟩, s.err⟩, none) := by unfold step; rw [if_neg (by omega), if_pos h1, if_neg (by omega), if_neg (by omega), if_pos hc]
  rw [hT]
  have OK := Lib.hid ok
  have HBa := Lib.hid hb
  have HB2a := Lib.hid hb2
  have C0 := Lib.hid h.rd.2.1
  have H := Lib.hid h
  have k0 : w.cell? ⟨r, 0, none⟩ = some (.int .i64 (s.beh : Int)) := h.rd.2.1.at_ rfl
  obtain ⟨x, hx⟩ : ∃ x, (c.toNat : Int) = x := ⟨_, rfl⟩
  have e255 : (x == 255) = false := by rw [beq_eq_false_iff_ne]; omega
  have e250 : (x == 250) = true := by rw [beq_iff_eq]; omega
  have hwx : IntKind.i64.wrap x = x := by have := c.toNat_lt; simp [IntKind.wrap, IntKind.bits, IntKind.signed]; omega
  have HX := Lib.hid hx
  rw [hx]
  have hvb : (decide (251 ≤ x) && decide (x ≤ 254)) = false := by rw [decide_eq_false (by omega)]; rfl
  clear h ok hb hb2 hT h1 hx hc
  go_enter Try.func34, Try.ntmps34
  go_wp2_with (first
    | (refine wpList_setC (off := 0) szI rfl (.tmp 9) (.const (.int .i64 0)) rfl .i64 0 C0.out (by simp) (by first | rfl | go_simp) (by first | rfl | go_simp) ?_; intro w1 h1 g1; have D1 := Lib.hid (H.out.rd.cells (s' := ⟨0, s.part, s.err⟩) (v' := pv) h1 g1 (.inl ⟨rfl, rfl⟩)); clear h1 g1; have X1 := Lib.hid (H.out.rdX D1.out.1 D1.out.2.1 D1.out.2.2); have HB := Lib.hid (Nat.le_trans HBa.out D1.out.2.1.size); have HB2 := Lib.hid (Nat.le_trans HB2a.out D1.out.2.1.size); have C1 := Lib.hid D1.out.1.2.1)
    | (go_at_call 32; refine (isVerb_any x _).mono ?_; rw [hvb]; rintro e wv ⟨rfl, rfl⟩)
    | (refine wpList_setC (off := 0) szI rfl (.tmp 36) (.const (.int .i64 3)) rfl .i64 3 C1.out (by simp) (by first | rfl | go_simp) (by first | rfl | go_simp) ?_; intro w2 h2 g2; have C2 := Lib.hid h2; have G2 := Lib.hid g2; clear h2 g2)
    | (refine wpList_storeC (off := 1) (p := [.int .i64 3, .int .i64 0, .int .i64 0, .slice none 0 0]) szT rfl (.tmp 38) (.tmp 34) rfl (.agg #[.int .i64 3, .int .i64 0, .int .i64 0, .slice none 0 0]) rfl (fun u hu => by simp at hu; rcases hu with rfl | rfl | rfl | rfl <;> rfl) C2.out rfl (by simp) (by first | rfl | go_simp) (by first | rfl | go_simp) ?_; intro w3 h3 g3; have D3 := Lib.hid (X1.out.rd.cells (s' := ⟨3, ⟨3, 0, 0, []⟩, s.err⟩) (v' := .slice none 0 0) h3 (grown_trans' G2.out g3) (.inr ⟨rfl, rfl⟩)); clear h3 g3))
  go_ret
  exact ⟨_, rfl, TR.next D1.out.2.1 D1.out.2.2 (X1.out.reader D3.out.1 D3.out.2.1 D3.out.2.2)⟩
set_option maxHeartbeats 1000000 in
theorem iac_bad (h : TX w b2 base r pv v vs s ps) (h1 : s.beh = 1) (ok : OkP ps) (hb : base ≤ w.heap.size) (hb2 : b2 ≤ w.heap.size) (hc : c.toNat ≤ 240) :
    Calls Try.prog 34 #[.pointer (some ⟨r, 0, none⟩), .int .u8 (c.toNat : Int), v] w fun e w' => ∃ v', e = .returned v' ∧ TR w w' b2 base r pv v vs v' (step s c).1 (joins ps (step s c).2) := by
  have hT : step s c = (⟨0, tl0, 21⟩, none) := by unfold step; rw [if_neg (by omega), if_pos h1, if_neg (by omega), if_neg (by omega), if_neg (by omega), if_pos hc]
  rw [hT]
  have OK := Lib.hid ok
  have HBa := Lib.hid hb
  have HB2a := Lib.hid hb2
  have C0 := Lib.hid h.rd.2.1
  have H := Lib.hid h
  have k0 : w.cell? ⟨r, 0, none⟩ = some (.int .i64 (s.beh : Int)) := h.rd.2.1.at_ rfl
  obtain ⟨x, hx⟩ : ∃ x, (c.toNat : Int) = x := ⟨_, rfl⟩
  have e255 : (x == 255) = false := by rw [beq_eq_false_iff_ne]; omega
  have e250 : (x == 250) = false := by rw [beq_eq_false_iff_ne]; omega
  have l1 : x ≤ 240 := by omega
  have hwx : IntKind.i64.wrap x = x := by have := c.toNat_lt; simp [IntKind.wrap, IntKind.bits, IntKind.signed]; omega
  have HX := Lib.hid hx
  rw [hx]
  have hvb : (decide (251 ≤ x) && decide (x ≤ 254)) = false := by rw [decide_eq_false (by omega)]; rfl
  clear h ok hb hb2 hT h1 hx hc
  go_enter Try.func34, Try.ntmps34
  go_wp2_with (first
    | (refine wpList_setC (off := 0) szI rfl (.tmp 9) (.const (.int .i64 0)) rfl .i64 0 C0.out (by simp) (by first | rfl | go_simp) (by first | rfl | go_simp) ?_; intro w1 h1 g1; have D1 := Lib.hid (H.out.rd.cells (s' := ⟨0, s.part, s.err⟩) (v' := pv) h1 g1 (.inl ⟨rfl, rfl⟩)); clear h1 g1; have X1 := Lib.hid (H.out.rdX D1.out.1 D1.out.2.1 D1.out.2.2); have HB := Lib.hid (Nat.le_trans HBa.out D1.out.2.1.size); have HB2 := Lib.hid (Nat.le_trans HB2a.out D1.out.2.1.size); have C1 := Lib.hid D1.out.1.2.1)
    | (go_at_call 32; refine (isVerb_any x _).mono ?_; rw [hvb]; rintro e wv ⟨rfl, rfl⟩)
    | (go_at_call 40; refine (fail_any X1.out.rd 21).mono ?_; rintro e wz ⟨rfl, rz⟩; have RZ := Lib.hid rz; clear rz))
  go_ret
  obtain ⟨pz, r1, r2, r3⟩ := RZ.out
  exact ⟨_, rfl, TR.next D1.out.2.1 D1.out.2.2 (X1.out.reader r1 r2 r3)⟩
set_option maxHeartbeats 1000000 in
theorem iac_pass (h : TX w b2 base r pv v vs s ps) (h1 : s.beh = 1) (ok : OkP ps) (hb : base ≤ w.heap.size) (hb2 : b2 ≤ w.heap.size) (hc : 240 < c.toNat ∧ c.toNat < 250) :
    Calls Try.prog 34 #[.pointer (some ⟨r, 0, none⟩), .int .u8 (c.toNat : Int), v] w fun e w' => ∃ v', e = .returned v' ∧ TR w w' b2 base r pv v vs v' (step s c).1 (joins ps (step s c).2) := by
  have hT : step s c = (⟨0, s.part, s.err⟩, none) := by unfold step; rw [if_neg (by omega), if_pos h1, if_neg (by omega), if_neg (by omega), if_neg (by omega), if_neg (by omega)]
  rw [hT]
  have OK := Lib.hid ok
  have HBa := Lib.hid hb
  have HB2a := Lib.hid hb2
  have C0 := Lib.hid h.rd.2.1
  have H := Lib.hid h
  have k0 : w.cell? ⟨r, 0, none⟩ = some (.int .i64 (s.beh : Int)) := h.rd.2.1.at_ rfl
  obtain ⟨x, hx⟩ : ∃ x, (c.toNat : Int) = x := ⟨_, rfl⟩
  have e255 : (x == 255) = false := by rw [beq_eq_false_iff_ne]; omega
  have e250 : (x == 250) = false := by rw [beq_eq_false_iff_ne]; omega
  have l1 : ¬ x ≤ 240 := by omega
  have hwx : IntKind.i64.wrap x = x := by have := c.toNat_lt; simp [IntKind.wrap, IntKind.bits, IntKind.signed]; omega
  have HX := Lib.hid hx
  rw [hx]
  have hvb : (decide (251 ≤ x) && decide (x ≤ 254)) = false := by rw [decide_eq_false (by omega)]; rfl
  clear h ok hb hb2 hT h1 hx hc
  go_enter Try.func34, Try.ntmps34
  go_wp2_with (first
    | (refine wpList_setC (off := 0) szI rfl (.tmp 9) (.const (.int .i64 0)) rfl .i64 0 C0.out (by simp) (by first | rfl | go_simp) (by first | rfl | go_simp) ?_; intro w1 h1 g1; have D1 := Lib.hid (H.out.rd.cells (s' := ⟨0, s.part, s.err⟩) (v' := pv) h1 g1 (.inl ⟨rfl, rfl⟩)); clear h1 g1; have X1 := Lib.hid (H.out.rdX D1.out.1 D1.out.2.1 D1.out.2.2); have HB := Lib.hid (Nat.le_trans HBa.out D1.out.2.1.size); have HB2 := Lib.hid (Nat.le_trans HB2a.out D1.out.2.1.size); have C1 := Lib.hid D1.out.1.2.1)
    | (go_at_call 32; refine (isVerb_any x _).mono ?_; rw [hvb]; rintro e wv ⟨rfl, rfl⟩))
  go_ret
  exact ⟨_, rfl, H.out.reader D1.out.1 D1.out.2.1 D1.out.2.2⟩
theorem iac_any (h : TX w b2 base r pv v vs s ps) (h1 : s.beh = 1) (ok : OkP ps) (hb : base ≤ w.heap.size) (hb2 : b2 ≤ w.heap.size) (c : UInt8) :
    Calls Try.prog 34 #[.pointer (some ⟨r, 0, none⟩), .int .u8 (c.toNat : Int), v] w fun e w' => ∃ v', e = .returned v' ∧ TR w w' b2 base r pv v vs v' (step s c).1 (joins ps (step s c).2) := by
  by_cases e1 : c.toNat = 255
  · exact iac_255 h h1 ok hb hb2 e1
  by_cases e2 : 251 ≤ c.toNat
  · exact iac_verb h h1 ok hb hb2 ⟨e2, e1⟩
  by_cases e3 : c.toNat = 250
  · exact iac_sb h h1 ok hb hb2 e3
  by_cases e4 : c.toNat ≤ 240
  · exact iac_bad h h1 ok hb hb2 e4
  · exact iac_pass h h1 ok hb hb2 ⟨by omega, by omega⟩
set_option maxHeartbeats 1000000 in
theorem sub_255 (h : TX w b2 base r pv v vs s ps) (h5 : s.beh = 5) (hd : s.part.data.length ≤ 3000) (ok : OkP ps) (hb : base ≤ w.heap.size) (hb2 : b2 ≤ w.heap.size) (hc : c.toNat = 255) :
    Calls Try.prog 37 #[.pointer (some ⟨r, 0, none⟩), .int .u8 (c.toNat : Int), v] w fun e w' => ∃ v', e = .returned v' ∧ TR w w' b2 base r pv v vs v' (step s c).1 (joins ps (step s c).2) := by
  have hT : step s c = (addF s 4 c, none) := by unfold step; rw [if_neg (by omega), if_neg (by omega), if_neg (by omega), if_neg (by omega), if_neg (by omega), if_pos h5, if_pos hc]
  rw [hT]
  have OK := Lib.hid ok
  have HBa := Lib.hid hb
  have HB2a := Lib.hid hb2
  have HD := Lib.hid hd
  have C0 := Lib.hid h.rd.2.1
  have H := Lib.hid h
  have k0 : w.cell? ⟨r, 0, none⟩ = some (.int .i64 (s.beh : Int)) := h.rd.2.1.at_ rfl
  obtain ⟨x, hx⟩ : ∃ x, (c.toNat : Int) = x := ⟨_, rfl⟩
  have e255 : (x == 255) = true := by rw [beq_iff_eq]; omega
  have hwx : IntKind.i64.wrap x = x := by have := c.toNat_lt; simp [IntKind.wrap, IntKind.bits, IntKind.signed]; omega
  have HX := Lib.hid hx
  rw [hx]
  clear h ok hb hb2 hT h5 hx hc hd
  go_enter Try.func37, Try.ntmps37
  go_wp2_with (first
    | (refine wpList_setC (off := 0) szI rfl (.tmp 14) (.const (.int .i64 4)) rfl .i64 4 C0.out (by simp) (by first | rfl | go_simp) (by first | rfl | go_simp) ?_; intro w1 h1 g1; have D1 := Lib.hid (H.out.rd.cells (s' := ⟨4, s.part, s.err⟩) (v' := pv) h1 g1 (.inl ⟨rfl, rfl⟩)); clear h1 g1; have X1 := Lib.hid (H.out.rdX D1.out.1 D1.out.2.1 D1.out.2.2); have HB := Lib.hid (Nat.le_trans HBa.out D1.out.2.1.size))
    | (go_at_call 36; rw [← HX.out]; refine (addData_any X1.out.rd HD.out HB.out c).mono ?_; rintro e wz ⟨rfl, rz⟩; have RZ := Lib.hid rz; clear rz))
  go_ret
  obtain ⟨pz, r1, r2, r3⟩ := RZ.out
  exact ⟨_, rfl, TR.next D1.out.2.1 D1.out.2.2 (X1.out.reader r1 r2 r3)⟩
set_option maxHeartbeats 1000000 in
theorem sub_240 (h : TX w b2 base r pv v vs s ps) (h5 : s.beh = 5) (hk : s.part.kind ≠ 1) (ok : OkP ps) (hb : base ≤ w.heap.size) (hb2 : b2 ≤ w.heap.size) (hc : c.toNat = 240) :
    Calls Try.prog 37 #[.pointer (some ⟨r, 0, none⟩), .int .u8 (c.toNat : Int), v] w fun e w' => ∃ v', e = .returned v' ∧ TR w w' b2 base r pv v vs v' (step s c).1 (joins ps (step s c).2) := by
  have hT : step s c = (⟨0, tl0, s.err⟩, some s.part) := by unfold step; rw [if_neg (by omega), if_neg (by omega), if_neg (by omega), if_neg (by omega), if_neg (by omega), if_pos h5, if_neg (by omega), if_pos hc]
  rw [hT]
  rw [show joins ps ((⟨0, tl0, s.err⟩ : Ts), some s.part).2 = ps ++ [s.part] from joins_other hk]
  have OK := Lib.hid ok
  have HBa := Lib.hid hb
  have HB2a := Lib.hid hb2
  have C0 := Lib.hid h.rd.2.1
  have H := Lib.hid h
  have k0 : w.cell? ⟨r, 0, none⟩ = some (.int .i64 (s.beh : Int)) := h.rd.2.1.at_ rfl
  obtain ⟨x, hx⟩ : ∃ x, (c.toNat : Int) = x := ⟨_, rfl⟩
  have e255 : (x == 255) = false := by rw [beq_eq_false_iff_ne]; omega
  have e240 : (x == 240) = true := by rw [beq_iff_eq]; omega
  have hwx : IntKind.i64.wrap x = x := by have := c.toNat_lt; simp [IntKind.wrap, IntKind.bits, IntKind.signed]; omega
  have HX := Lib.hid hx
  rw [hx]
  clear h ok hb hb2 hT h5 hx hc hk
  go_enter Try.func37, Try.ntmps37
  go_wp2_with (first
    | (go_at_call 35; refine (whole_any H.out HB2a.out OK.out.1).mono ?_; rintro e wz ⟨vz, rfl, rz⟩; have RZ := Lib.hid rz; clear rz))
  go_ret
  exact ⟨_, rfl, RZ.out⟩
set_option maxHeartbeats 1000000 in
theorem sub_bad (h : TX w b2 base r pv v vs s ps) (h5 : s.beh = 5) (ok : OkP ps) (hb : base ≤ w.heap.size) (hb2 : b2 ≤ w.heap.size) (hc : c.toNat ≠ 255 ∧ c.toNat ≠ 240) :
    Calls Try.prog 37 #[.pointer (some ⟨r, 0, none⟩), .int .u8 (c.toNat : Int), v] w fun e w' => ∃ v', e = .returned v' ∧ TR w w' b2 base r pv v vs v' (step s c).1 (joins ps (step s c).2) := by
  have hT : step s c = (⟨5, tl0, 21⟩, none) := by unfold step; rw [if_neg (by omega), if_neg (by omega), if_neg (by omega), if_neg (by omega), if_neg (by omega), if_pos h5, if_neg (by omega), if_neg (by omega)]
  rw [hT]
  have OK := Lib.hid ok
  have HBa := Lib.hid hb
  have HB2a := Lib.hid hb2
  have H5 := Lib.hid h5
  have C0 := Lib.hid h.rd.2.1
  have H := Lib.hid h
  have k0 : w.cell? ⟨r, 0, none⟩ = some (.int .i64 (s.beh : Int)) := h.rd.2.1.at_ rfl
  obtain ⟨x, hx⟩ : ∃ x, (c.toNat : Int) = x := ⟨_, rfl⟩
  have e255 : (x == 255) = false := by rw [beq_eq_false_iff_ne]; omega
  have e240 : (x == 240) = false := by rw [beq_eq_false_iff_ne]; omega
  have hwx : IntKind.i64.wrap x = x := by have := c.toNat_lt; simp [IntKind.wrap, IntKind.bits, IntKind.signed]; omega
  have HX := Lib.hid hx
  rw [hx]
  clear h ok hb hb2 hT h5 hx hc
  go_enter Try.func37, Try.ntmps37
  go_wp2_with (go_at_call 40; refine (fail_any H.out.rd 21).mono ?_; rintro e wz ⟨rfl, rz⟩; have RZ := Lib.hid rz; clear rz)
  go_ret
  obtain ⟨pz, r1, r2, r3⟩ := RZ.out
  rw [H5.out] at r1
  exact ⟨_, rfl, H.out.reader r1 r2 r3⟩
theorem sub_any (h : TX w b2 base r pv v vs s ps) (h5 : s.beh = 5) (hd : s.part.data.length ≤ 3000) (hk : s.part.kind ≠ 1) (ok : OkP ps) (hb : base ≤ w.heap.size) (hb2 : b2 ≤ w.heap.size) (c : UInt8) :
    Calls Try.prog 37 #[.pointer (some ⟨r, 0, none⟩), .int .u8 (c.toNat : Int), v] w fun e w' => ∃ v', e = .returned v' ∧ TR w w' b2 base r pv v vs v' (step s c).1 (joins ps (step s c).2) := by
  by_cases e1 : c.toNat = 255
  · exact sub_255 h h5 hd ok hb hb2 e1
  by_cases e2 : c.toNat = 240
  · exact sub_240 h h5 hk ok hb hb2 e2
  · exact sub_bad h h5 ok hb hb2 ⟨e1, e2⟩
set_option maxHeartbeats 1000000 in
theorem take_0d (h : TX w b2 base r pv v vs s ps) (h0 : s.beh = 0) (hc : c.toNat ≠ 255) (ok : OkP ps) (hb : base ≤ w.heap.size) (hb2 : b2 ≤ w.heap.size) :
    Calls Try.prog 25 #[.pointer (some ⟨r, 0, none⟩), .int .u8 (c.toNat : Int), v] w fun e w' => ∃ v', e = .returned v' ∧ TR w w' b2 base r pv v vs v' (step s c).1 (joins ps (step s c).2) := by
  have hT : step s c = (s, some ⟨1, 0, 0, [c]⟩) := by unfold step; rw [if_pos h0, if_neg hc]
  rw [hT]
  have OK := Lib.hid ok
  have HBa := Lib.hid hb
  have HB2a := Lib.hid hb2
  have C0 := Lib.hid h.rd.2.1
  have H := Lib.hid h
  have k0 : w.cell? ⟨r, 0, none⟩ = some (.int .i64 (s.beh : Int)) := h.rd.2.1.at_ rfl
  rw [h0] at k0
  obtain ⟨x, hx⟩ : ∃ x, (c.toNat : Int) = x := ⟨_, rfl⟩
  have n255 : (x != 255) = true := by rw [bne, show (x == 255) = false by rw [beq_eq_false_iff_ne]; omega]; rfl
  have hwx : IntKind.i64.wrap x = x := by have := c.toNat_lt; simp [IntKind.wrap, IntKind.bits, IntKind.signed]; omega
  have HX := Lib.hid hx
  rw [hx]
  clear h ok hb hb2 hT hx h0 hc
  go_enter Try.func25, Try.ntmps25
  go_wp2_with (go_at_call 33; rw [← HX.out]; refine (withData_any H.out.row (List.pairwise_cons.1 H.out.ap).2 OK.out.1 OK.out.2 HBa.out HB2a.out c).mono ?_; rintro e wz ⟨vz, rfl, rz⟩; have RZ := Lib.hid rz; clear rz)
  go_ret
  exact ⟨_, rfl, H.out.parts RZ.out⟩
set_option maxHeartbeats 1000000 in
theorem take_0i (h : TX w b2 base r pv v vs s ps) (h0 : s.beh = 0) (hc : c.toNat = 255) (ok : OkP ps) (hb : base ≤ w.heap.size) (hb2 : b2 ≤ w.heap.size) :
    Calls Try.prog 25 #[.pointer (some ⟨r, 0, none⟩), .int .u8 (c.toNat : Int), v] w fun e w' => ∃ v', e = .returned v' ∧ TR w w' b2 base r pv v vs v' (step s c).1 (joins ps (step s c).2) := by
  have hT : step s c = (⟨1, s.part, s.err⟩, none) := by unfold step; rw [if_pos h0, if_pos hc]
  rw [hT]
  have OK := Lib.hid ok
  have HBa := Lib.hid hb
  have HB2a := Lib.hid hb2
  have C0 := Lib.hid h.rd.2.1
  have H := Lib.hid h
  have k0 : w.cell? ⟨r, 0, none⟩ = some (.int .i64 (s.beh : Int)) := h.rd.2.1.at_ rfl
  rw [h0] at k0
  obtain ⟨x, hx⟩ : ∃ x, (c.toNat : Int) = x := ⟨_, rfl⟩
  have n255 : (x != 255) = false := by rw [bne, show (x == 255) = true by rw [beq_iff_eq]; omega]; rfl
  have hwx : IntKind.i64.wrap x = x := by have := c.toNat_lt; simp [IntKind.wrap, IntKind.bits, IntKind.signed]; omega
  have HX := Lib.hid hx
  rw [hx]
  clear h ok hb hb2 hT hx h0 hc
  go_enter Try.func25, Try.ntmps25
  go_wp2_with (refine wpList_setC (off := 0) szI rfl (.tmp 20) (.const (.int .i64 1)) rfl .i64 1 C0.out (by simp) (by first | rfl | go_simp) (by first | rfl | go_simp) ?_; intro w1 h1 g1; have D1 := Lib.hid (H.out.rd.cells (s' := ⟨1, s.part, s.err⟩) (v' := pv) h1 g1 (.inl ⟨rfl, rfl⟩)); clear h1 g1)
  go_ret
  exact ⟨_, rfl, H.out.reader D1.out.1 D1.out.2.1 D1.out.2.2⟩
set_option maxHeartbeats 1000000 in
theorem take_1 (h : TX w b2 base r pv v vs s ps) (h1 : s.beh = 1) (ok : OkP ps) (hb : base ≤ w.heap.size) (hb2 : b2 ≤ w.heap.size) :
    Calls Try.prog 25 #[.pointer (some ⟨r, 0, none⟩), .int .u8 (c.toNat : Int), v] w fun e w' => ∃ v', e = .returned v' ∧ TR w w' b2 base r pv v vs v' (step s c).1 (joins ps (step s c).2) := by
  have k0 : w.cell? ⟨r, 0, none⟩ = some (.int .i64 (s.beh : Int)) := h.rd.2.1.at_ rfl
  rw [h1] at k0
  have HC := Lib.hid (iac_any h h1 ok hb hb2 c)
  clear h h1 ok hb hb2
  go_enter Try.func25, Try.ntmps25
  go_wp2_with (go_at_call 34; refine HC.out.mono ?_; rintro e wz ⟨vz, rfl, rz⟩; have RZ := Lib.hid rz; clear rz)
  go_ret
  exact ⟨_, rfl, RZ.out⟩
set_option maxHeartbeats 1000000 in
theorem take_2 (h : TX w b2 base r pv v vs s ps) (h2 : s.beh = 2) (hk : s.part.kind ≠ 1) (ok : OkP ps) (hb : base ≤ w.heap.size) (hb2 : b2 ≤ w.heap.size) :
    Calls Try.prog 25 #[.pointer (some ⟨r, 0, none⟩), .int .u8 (c.toNat : Int), v] w fun e w' => ∃ v', e = .returned v' ∧ TR w w' b2 base r pv v vs v' (step s c).1 (joins ps (step s c).2) := by
  have hT : step s c = (⟨0, tl0, s.err⟩, some { s.part with opt := (c.toNat : Int) }) := by unfold step; rw [if_neg (by omega), if_neg (by omega), if_pos h2]
  rw [hT]
  rw [show joins ps ((⟨0, tl0, s.err⟩ : Ts), some { s.part with opt := (c.toNat : Int) }).2 = ps ++ [{ s.part with opt := (c.toNat : Int) }] from joins_other hk]
  have OK := Lib.hid ok
  have HBa := Lib.hid hb
  have HB2a := Lib.hid hb2
  have C0 := Lib.hid h.rd.2.1
  have H := Lib.hid h
  have k0 : w.cell? ⟨r, 0, none⟩ = some (.int .i64 (s.beh : Int)) := h.rd.2.1.at_ rfl
  rw [h2] at k0
  obtain ⟨x, hx⟩ : ∃ x, (c.toNat : Int) = x := ⟨_, rfl⟩
  have hwx : IntKind.i64.wrap x = x := by have := c.toNat_lt; simp [IntKind.wrap, IntKind.bits, IntKind.signed]; omega
  have HX := Lib.hid hx
  rw [hx]
  clear h ok hb hb2 hT hx h2 hk
  go_enter Try.func25, Try.ntmps25
  go_wp2_with (first
    | (refine wpList_setC (off := 3) szI rfl (.tmp 34) (.tmp 31) rfl .i64 x C0.out (by simp) (by first | rfl | go_simp) (by first | rfl | go_simp) ?_; intro w1 h1 g1; have D1 := Lib.hid (H.out.rd.cells (s' := ⟨s.beh, { s.part with opt := x }, s.err⟩) (v' := pv) h1 g1 (.inl ⟨rfl, rfl⟩)); clear h1 g1; have X1 := Lib.hid (H.out.rdX D1.out.1 D1.out.2.1 D1.out.2.2); have HB2 := Lib.hid (Nat.le_trans HB2a.out D1.out.2.1.size))
    | (go_at_call 35; refine (whole_any X1.out HB2.out OK.out.1).mono ?_; rintro e wz ⟨vz, rfl, rz⟩; have RZ := Lib.hid rz; clear rz))
  go_ret
  exact ⟨_, rfl, TR.next D1.out.2.1 D1.out.2.2 RZ.out⟩
set_option maxHeartbeats 1000000 in
theorem take_3 (h : TX w b2 base r pv v vs s ps) (h3 : s.beh = 3) (ok : OkP ps) (hb : base ≤ w.heap.size) (hb2 : b2 ≤ w.heap.size) :
    Calls Try.prog 25 #[.pointer (some ⟨r, 0, none⟩), .int .u8 (c.toNat : Int), v] w fun e w' => ∃ v', e = .returned v' ∧ TR w w' b2 base r pv v vs v' (step s c).1 (joins ps (step s c).2) := by
  have hT : step s c = (⟨4, { s.part with opt := (c.toNat : Int) }, s.err⟩, none) := by unfold step; rw [if_neg (by omega), if_neg (by omega), if_neg (by omega), if_pos h3]
  rw [hT]
  have OK := Lib.hid ok
  have HBa := Lib.hid hb
  have HB2a := Lib.hid hb2
  have C0 := Lib.hid h.rd.2.1
  have H := Lib.hid h
  have k0 : w.cell? ⟨r, 0, none⟩ = some (.int .i64 (s.beh : Int)) := h.rd.2.1.at_ rfl
  rw [h3] at k0
  obtain ⟨x, hx⟩ : ∃ x, (c.toNat : Int) = x := ⟨_, rfl⟩
  have hwx : IntKind.i64.wrap x = x := by have := c.toNat_lt; simp [IntKind.wrap, IntKind.bits, IntKind.signed]; omega
  have HX := Lib.hid hx
  rw [hx]
  clear h ok hb hb2 hT hx h3
  go_enter Try.func25, Try.ntmps25
  go_wp2_with (first
    | (refine wpList_setC (off := 3) szI rfl (.tmp 45) (.tmp 42) rfl .i64 x C0.out (by simp) (by first | rfl | go_simp) (by first | rfl | go_simp) ?_; intro w1 h1 g1; have D1 := Lib.hid (H.out.rd.cells (s' := ⟨s.beh, { s.part with opt := x }, s.err⟩) (v' := pv) h1 g1 (.inl ⟨rfl, rfl⟩)); clear h1 g1; have X1 := Lib.hid (H.out.rdX D1.out.1 D1.out.2.1 D1.out.2.2); have C1 := Lib.hid D1.out.1.2.1)
    | (refine wpList_setC (off := 0) szI rfl (.tmp 48) (.const (.int .i64 4)) rfl .i64 4 C1.out (by simp) (by first | rfl | go_simp) (by first | rfl | go_simp) ?_; intro w2 h2 g2; have D2 := Lib.hid (X1.out.rd.cells (s' := ⟨4, { s.part with opt := x }, s.err⟩) (v' := pv) h2 g2 (.inl ⟨rfl, rfl⟩)); clear h2 g2))
  go_ret
  exact ⟨_, rfl, TR.next D1.out.2.1 D1.out.2.2 (X1.out.reader D2.out.1 D2.out.2.1 D2.out.2.2)⟩
set_option maxHeartbeats 1000000 in
theorem take_4i (h : TX w b2 base r pv v vs s ps) (h4 : s.beh = 4) (hc : c.toNat = 255) (ok : OkP ps) (hb : base ≤ w.heap.size) (hb2 : b2 ≤ w.heap.size) :
    Calls Try.prog 25 #[.pointer (some ⟨r, 0, none⟩), .int .u8 (c.toNat : Int), v] w fun e w' => ∃ v', e = .returned v' ∧ TR w w' b2 base r pv v vs v' (step s c).1 (joins ps (step s c).2) := by
  have hT : step s c = (⟨5, s.part, s.err⟩, none) := by unfold step; rw [if_neg (by omega), if_neg (by omega), if_neg (by omega), if_neg (by omega), if_pos h4, if_pos hc]
  rw [hT]
  have OK := Lib.hid ok
  have HBa := Lib.hid hb
  have HB2a := Lib.hid hb2
  have C0 := Lib.hid h.rd.2.1
  have H := Lib.hid h
  have k0 : w.cell? ⟨r, 0, none⟩ = some (.int .i64 (s.beh : Int)) := h.rd.2.1.at_ rfl
  rw [h4] at k0
  obtain ⟨x, hx⟩ : ∃ x, (c.toNat : Int) = x := ⟨_, rfl⟩
  have e255 : (x == 255) = true := by rw [beq_iff_eq]; omega
  have hwx : IntKind.i64.wrap x = x := by have := c.toNat_lt; simp [IntKind.wrap, IntKind.bits, IntKind.signed]; omega
  have HX := Lib.hid hx
  rw [hx]
  clear h ok hb hb2 hT hx h4 hc
  go_enter Try.func25, Try.ntmps25
  go_wp2_with (refine wpList_setC (off := 0) szI rfl (.tmp 55) (.const (.int .i64 5)) rfl .i64 5 C0.out (by simp) (by first | rfl | go_simp) (by first | rfl | go_simp) ?_; intro w1 h1 g1; have D1 := Lib.hid (H.out.rd.cells (s' := ⟨5, s.part, s.err⟩) (v' := pv) h1 g1 (.inl ⟨rfl, rfl⟩)); clear h1 g1)
  go_ret
  exact ⟨_, rfl, H.out.reader D1.out.1 D1.out.2.1 D1.out.2.2⟩
set_option maxHeartbeats 1000000 in
theorem take_4d (h : TX w b2 base r pv v vs s ps) (h4 : s.beh = 4) (hd : s.part.data.length ≤ 3000) (hc : c.toNat ≠ 255) (ok : OkP ps) (hb : base ≤ w.heap.size) (hb2 : b2 ≤ w.heap.size) :
    Calls Try.prog 25 #[.pointer (some ⟨r, 0, none⟩), .int .u8 (c.toNat : Int), v] w fun e w' => ∃ v', e = .returned v' ∧ TR w w' b2 base r pv v vs v' (step s c).1 (joins ps (step s c).2) := by
  have hT : step s c = (addF s 4 c, none) := by unfold step; rw [if_neg (by omega), if_neg (by omega), if_neg (by omega), if_neg (by omega), if_pos h4, if_neg hc]
  rw [hT]
  have OK := Lib.hid ok
  have HBa := Lib.hid hb
  have HB2a := Lib.hid hb2
  have HD := Lib.hid hd
  have H4 := Lib.hid h4
  have C0 := Lib.hid h.rd.2.1
  have H := Lib.hid h
  have k0 : w.cell? ⟨r, 0, none⟩ = some (.int .i64 (s.beh : Int)) := h.rd.2.1.at_ rfl
  rw [h4] at k0
  obtain ⟨x, hx⟩ : ∃ x, (c.toNat : Int) = x := ⟨_, rfl⟩
  have e255 : (x == 255) = false := by rw [beq_eq_false_iff_ne]; omega
  have hwx : IntKind.i64.wrap x = x := by have := c.toNat_lt; simp [IntKind.wrap, IntKind.bits, IntKind.signed]; omega
  have HX := Lib.hid hx
  rw [hx]
  clear h ok hb hb2 hT hx h4 hc hd
  go_enter Try.func25, Try.ntmps25
  go_wp2_with (go_at_call 36; rw [← HX.out]; refine (addData_any H.out.rd HD.out HBa.out c).mono ?_; rintro e wz ⟨rfl, rz⟩; have RZ := Lib.hid rz; clear rz)
  go_ret
  obtain ⟨pz, r1, r2, r3⟩ := RZ.out
  rw [H4.out] at r1
  exact ⟨_, rfl, H.out.reader r1 r2 r3⟩
set_option maxHeartbeats 1000000 in
theorem take_5 (h : TX w b2 base r pv v vs s ps) (h5 : s.beh = 5) (hd : s.part.data.length ≤ 3000) (hk : s.part.kind ≠ 1) (ok : OkP ps) (hb : base ≤ w.heap.size) (hb2 : b2 ≤ w.heap.size) :
    Calls Try.prog 25 #[.pointer (some ⟨r, 0, none⟩), .int .u8 (c.toNat : Int), v] w fun e w' => ∃ v', e = .returned v' ∧ TR w w' b2 base r pv v vs v' (step s c).1 (joins ps (step s c).2) := by
  have k0 : w.cell? ⟨r, 0, none⟩ = some (.int .i64 (s.beh : Int)) := h.rd.2.1.at_ rfl
  rw [h5] at k0
  have HC := Lib.hid (sub_any h h5 hd hk ok hb hb2 c)
  clear h h5 hd hk ok hb hb2
  go_enter Try.func25, Try.ntmps25
  go_wp2_with (go_at_call 37; refine HC.out.mono ?_; rintro e wz ⟨vz, rfl, rz⟩; have RZ := Lib.hid rz; clear rz)
  go_ret
  exact ⟨_, rfl, RZ.out⟩
theorem take_any (h : TX w b2 base r pv v vs s ps) (hs : OkT s) (he : s.err = 0) (ok : OkP ps) (hb : base ≤ w.heap.size) (hb2 : b2 ≤ w.heap.size) (c : UInt8) :
    Calls Try.prog 25 #[.pointer (some ⟨r, 0, none⟩), .int .u8 (c.toNat : Int), v] w fun e w' => ∃ v', e = .returned v' ∧ TR w w' b2 base r pv v vs v' (step s c).1 (joins ps (step s c).2) := by
  rcases hs with ⟨h0, _⟩ | ⟨_, ⟨h1, _⟩ | ⟨h2, hk, _⟩ | ⟨h3, _⟩ | ⟨h4, hk, _, hd⟩⟩ | ⟨hn, _⟩
  · by_cases hc : c.toNat = 255
    · exact take_0i h h0 hc ok hb hb2
    · exact take_0d h h0 hc ok hb hb2
  · exact take_1 h h1 ok hb hb2
  · exact take_2 h h2 (by rw [hk]; decide) ok hb hb2
  · exact take_3 h h3 ok hb hb2
  · rcases h4 with h4 | h5
    · by_cases hc : c.toNat = 255
      · exact take_4i h h4 hc ok hb hb2
      · exact take_4d h h4 hd hc ok hb hb2
    · exact take_5 h h5 hd (by rw [hk]; decide) ok hb hb2
  · exact absurd he hn
end
end Go.Proofs.Ytcfhpoigfkljpaa
