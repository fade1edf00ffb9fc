/- The walk of TreeBack. -/
import Derived.Test.YtmbmahpklkcioaaDoorTry
namespace Go.Proofs.YtmbmahpklkcioaaDoor
open Go.RowKit Go.Maps Go.WideMaps

section
variable (b0 b1 b2 : Nat) (v0 v1 v2 : Value) (x : Nat) (who : ByteArray)
theorem may_one (m : Nat) (h1 : (m &&& 8) != 0) (h2 : (m &&& 1) != 0) : mayOk who 1 rootB m = true := by
  unfold mayOk
  by_cases h : who = rootB
  · rw [if_pos h, h1, Bool.or_true]
  · rw [if_neg h, h2, Bool.or_true]
theorem bk_come : comeE [([47], ⟨b0, true, rootB, 61, v0⟩), (pD, ⟨b1, true, rootB, 63, v1⟩), (pF, ⟨b2, false, annB, x, v2⟩)] who (aheads pF) = 0 := by
  have ha : aheads pF = [[47], pD] := by kernel_rfl
  have l1 : List.lookup [47] [([47], (⟨b0, true, rootB, 61, v0⟩ : Nd)), (pD, ⟨b1, true, rootB, 63, v1⟩), (pF, ⟨b2, false, annB, x, v2⟩)] = some ⟨b0, true, rootB, 61, v0⟩ := by kernel_rfl
  have l2 : List.lookup pD [([47], (⟨b0, true, rootB, 61, v0⟩ : Nd)), (pD, ⟨b1, true, rootB, 63, v1⟩), (pF, ⟨b2, false, annB, x, v2⟩)] = some ⟨b1, true, rootB, 63, v1⟩ := by kernel_rfl
  rw [ha]
  simp only [comeE, l1, l2, may_one who 61 (by decide) (by decide), may_one who 63 (by decide) (by decide)]
  rfl
theorem bk_rd : readR [([47], ⟨b0, true, rootB, 61, v0⟩), (pD, ⟨b1, true, rootB, 63, v1⟩), (pF, ⟨b2, false, annB, x, v2⟩)] who pF = if mayOk who 4 annB x = false then (none, 114) else (some ⟨b2, false, annB, x, v2⟩, 0) := by
  have l3 : List.lookup pF [([47], (⟨b0, true, rootB, 61, v0⟩ : Nd)), (pD, ⟨b1, true, rootB, 63, v1⟩), (pF, ⟨b2, false, annB, x, v2⟩)] = some ⟨b2, false, annB, x, v2⟩ := by kernel_rfl
  have hf : findR [([47], ⟨b0, true, rootB, 61, v0⟩), (pD, ⟨b1, true, rootB, 63, v1⟩), (pF, ⟨b2, false, annB, x, v2⟩)] who pF = (some ⟨b2, false, annB, x, v2⟩, 0) := by
    unfold findR
    rw [if_neg (by rw [show pathOk pF = true by kernel_rfl]; decide), if_pos (bk_come b0 b1 b2 v0 v1 v2 x who), l3]
  unfold readR
  rw [hf]
  rfl
theorem bk_ok (h : mayOk who 4 annB x = true) : readR [([47], ⟨b0, true, rootB, 61, v0⟩), (pD, ⟨b1, true, rootB, 63, v1⟩), (pF, ⟨b2, false, annB, x, v2⟩)] who pF = (some ⟨b2, false, annB, x, v2⟩, 0) := by
  rw [bk_rd, h]
  rfl
theorem bk_no (h : mayOk who 4 annB x = false) : readR [([47], ⟨b0, true, rootB, 61, v0⟩), (pD, ⟨b1, true, rootB, 63, v1⟩), (pF, ⟨b2, false, annB, x, v2⟩)] who pF = (none, 114) := by
  rw [bk_rd, h]
  rfl
theorem bk_root (o : ByteArray) : mayOk rootB 4 o x = true := by simp [mayOk]
theorem bk_ann : mayOk annB 4 annB x = ((x &&& 32) != 0) := by
  unfold mayOk
  rw [decide_eq_false (by decide : ¬ annB = rootB), if_pos rfl]
  rfl
theorem bk_oth (h1 : who ≠ rootB) (h2 : who ≠ annB) : mayOk who 4 annB x = ((x &&& 4) != 0) := by
  unfold mayOk
  rw [decide_eq_false h1, if_neg h2]
  rfl
theorem sh4 : ∀ x : Fin 64, bits .and .i64 ((x.val : Int) / 4) 1 = if (x.val &&& 4) != 0 then 1 else 0 := by decide +kernel
theorem sh32 : ∀ x : Fin 64, ((x.val : Int) / 32) = if (x.val &&& 32) != 0 then 1 else 0 := by decide +kernel
theorem sh4_ok (h : x ≤ 63) (hb : ((x &&& 4) != 0) = true) : bits .and .i64 ((x : Int) / 4) 1 = 1 := by have := sh4 ⟨x, by omega⟩; rw [if_pos hb] at this; exact this
theorem sh4_no (h : x ≤ 63) (hb : ((x &&& 4) != 0) = false) : bits .and .i64 ((x : Int) / 4) 1 = 0 := by have := sh4 ⟨x, by omega⟩; rw [if_neg (by rw [hb]; decide)] at this; exact this
theorem sh32_ok (h : x ≤ 63) (hb : ((x &&& 32) != 0) = true) : (x : Int) / 32 = 1 := by have := sh32 ⟨x, by omega⟩; rw [if_pos hb] at this; exact this
theorem sh32_no (h : x ≤ 63) (hb : ((x &&& 32) != 0) = false) : (x : Int) / 32 = 0 := by have := sh32 ⟨x, by omega⟩; rw [if_neg (by rw [hb]; decide)] at this; exact this
theorem bk_w1 (k : Nat) (m : Int) (hm : ¬ (0 ≤ m ∧ m ≤ 63)) : writeC [([47], ⟨b0, true, rootB, 61, v0⟩), (pD, ⟨b1, true, rootB, 63, v1⟩)] annB pF k m = 1 := by
  unfold writeC
  rw [show (comeR [([47], (⟨b0, true, rootB, 61, v0⟩ : Nd)), (pD, ⟨b1, true, rootB, 63, v1⟩)] annB pF).2 = 0 by kernel_rfl, if_neg (by decide), if_pos hm]
theorem bk_w23 (k : Nat) (m : Int) (hm : 0 ≤ m ∧ m ≤ 63) (hk : 1000 < k) : writeC [([47], ⟨b0, true, rootB, 61, v0⟩), (pD, ⟨b1, true, rootB, 63, v1⟩)] annB pF k m = 23 := by
  unfold writeC
  rw [show (comeR [([47], (⟨b0, true, rootB, 61, v0⟩ : Nd)), (pD, ⟨b1, true, rootB, 63, v1⟩)] annB pF).2 = 0 by kernel_rfl, if_neg (by decide), if_neg (by simpa using hm), if_pos hk]
end

set_option maxRecDepth 10000 in
set_option maxHeartbeats 8000000 in
theorem walk_TreeBack (w : World) (A : Option Addr) (l : List UInt8) (cap : Nat) (hr : RB w w.heap.size A l cap) (m : Int) (_hm : (Lit.int .i64 m).wf = true) (who : ByteArray) : Calls Tryd.prog 3 #[.slice A l.length cap, .int .i64 m, .string who] w fun e w' => e = .returned (.bool true) ∧ Below w.heap.size w w' := by
  obtain ⟨k, hk⟩ : ∃ k, l.length = k := ⟨_, rfl⟩
  have HR := Lib.hid hr
  have HK := Lib.hid hk
  rw [hk]
  clear hr hk
  have TK0 := Lib.hid True.intro
  by_cases h9 : 1500 < k
  · have h9i : (1500 : Int) < (k : Int) := by omega
    go_enter Tryd.func3, Tryd.ntmps3
    go_wp2_with (have hx := TK0; go_at_call 8; refine (speaks_any _).mono ?_; rintro e w0 ⟨rfl, g⟩; have G0 := Lib.hid g; clear g; clear hx TK0; have TK1 := Lib.hid True.intro)
    go_ret
    exact ⟨rfl, below_of_none G0.out⟩
  have h9i : ¬ (1500 : Int) < (k : Int) := by omega
  by_cases h8 : 100 < who.size
  · have h8i : (100 : Int) < (who.size : Int) := by omega
    go_enter Tryd.func3, Tryd.ntmps3
    go_wp2_with (have hx := TK0; go_at_call 8; refine (speaks_any _).mono ?_; rintro e w0 ⟨rfl, g⟩; have G0 := Lib.hid g; clear g; clear hx TK0; have TK1 := Lib.hid True.intro)
    go_ret
    exact ⟨rfl, below_of_none G0.out⟩
  have h8i : ¬ (100 : Int) < (who.size : Int) := by omega
  by_cases hm : 0 ≤ m ∧ m ≤ 63
  · have m1 : ¬ m < 0 := by omega
    have m2 : ¬ 63 < m := by omega
    by_cases hk : 1000 < k
    · have hki : (1000 : Int) < (k : Int) := by omega
      have HM := Lib.hid hm
      have HKK := Lib.hid hk
      clear hm hk h9 h8
      go_enter Tryd.func3, Tryd.ntmps3
      go_wp2_with (first
        | (have hx := TK0; go_at_call 8; refine (speaks_any _).mono ?_; rintro e w0 ⟨rfl, g⟩; have G0 := Lib.hid g; clear g; clear hx TK0; have TK1 := Lib.hid True.intro)
        | (have hx := TK1; go_at_call 9; refine (TG.new _).mono ?_; rintro e w1 ⟨tb, mb, b0, v0, rfl, t0, g0⟩; have T1 := Lib.hid (t0.since G0.out); clear t0 g0; clear hx TK1; have TK2 := Lib.hid True.intro)
        | (have hx := TK2; go_at_call 10; refine (g_mkdir_ok T1.out ⟨_, rfl⟩ ⟨#[114, 111, 111, 116]⟩ ⟨#[47, 100]⟩ (by decide) pD rfl (by decide) 63 (ow_mk b0 v0)).mono ?_; rintro e w2 ⟨rfl, b1, v1, t⟩; have T2 := Lib.hid t; clear t; clear hx TK2; have TK3 := Lib.hid True.intro)
        | (have hx := TK3; go_at_call 11; refine (g_write_no T2.out ⟨_, rfl⟩ (by simp) ⟨#[97, 110, 110]⟩ ⟨#[47, 100, 47, 102]⟩ pF rfl (by decide) A k cap m 23 (bk_w23 b0 b1 v0 v1 k m HM.out HKK.out) (by decide)).mono ?_; rintro e w3 ⟨rfl, t, kp⟩; have T3 := Lib.hid t; have K3 := Lib.hid kp; clear t kp; clear hx TK3; have TK4 := Lib.hid True.intro))
      go_ret
      exact ⟨rfl, below_of_none T3.out.gr⟩
    · have hki : ¬ (1000 : Int) < (k : Int) := by omega
      have HK9 := Lib.hid (show k ≤ 1000 by omega)
      obtain ⟨x, rfl⟩ : ∃ x : Nat, m = (x : Int) := ⟨m.toNat, by omega⟩
      have HX := Lib.hid (show x ≤ 63 by omega)
      clear hm hk h9 h8
      by_cases hw : who = rootB
      · subst hw
        have HMO := Lib.hid (bk_root x annB)
        have hra : (([114, 111, 111, 116] : List UInt8) == [97, 110, 110]) = false := by decide
        simp only [rootB]
        go_enter Tryd.func3, Tryd.ntmps3
        go_wp2_with (first
          | (have hx := TK0; go_at_call 8; refine (speaks_any _).mono ?_; rintro e w0 ⟨rfl, g⟩; have G0 := Lib.hid g; clear g; clear hx TK0; have TK1 := Lib.hid True.intro)
          | (have hx := TK1; go_at_call 9; refine (TG.new _).mono ?_; rintro e w1 ⟨tb, mb, b0, v0, rfl, t0, g0⟩; have T1 := Lib.hid (t0.since G0.out); clear t0 g0; clear hx TK1; have TK2 := Lib.hid True.intro)
          | (have hx := TK2; go_at_call 10; refine (g_mkdir_ok T1.out ⟨_, rfl⟩ ⟨#[114, 111, 111, 116]⟩ ⟨#[47, 100]⟩ (by decide) pD rfl (by decide) 63 (ow_mk b0 v0)).mono ?_; rintro e w2 ⟨rfl, b1, v1, t⟩; have T2 := Lib.hid t; clear t; clear hx TK2; have TK3 := Lib.hid True.intro)
          | (have hx := TK3; go_at_call 11; refine (g_write_put T2.out ⟨_, rfl⟩ ⟨#[97, 110, 110]⟩ ⟨#[47, 100, 47, 102]⟩ (by decide) pF rfl (by decide) A l k cap HK.out ((HR.out.below (below_of_none T2.out.gr)).more T2.out.gr.size) (x : Int) (ow_wr b0 b1 v0 v1 (x : Int) ⟨by omega, by have := HX.out; omega⟩ k HK9.out) (ow_out b0 b1 v0 v1)).mono ?_; rintro e w3 ⟨rfl, b2, v2, t, o⟩; have T3 := Lib.hid t; have O3 := Lib.hid o; clear t o; clear hx TK3; have TK4 := Lib.hid True.intro)
          | (have hx := TK4; go_at_call 12; refine (g_read_ok T3.out ⟨#[114, 111, 111, 116]⟩ ⟨#[47, 100, 47, 102]⟩ pF rfl (by decide) _ (bk_ok b0 b1 b2 v0 v1 v2 x ⟨#[114, 111, 111, 116]⟩ HMO.out) O3.out k HK.out).mono ?_; rintro e w4 ⟨A4, c4, rfl, o, t, kp⟩; have T4 := Lib.hid t; have K4 := Lib.hid kp; have O4 := Lib.hid o; clear t kp o; clear hx TK4; have TK5 := Lib.hid True.intro)
          | (have hx := TK5; go_at_call 12; refine (g_read_ok T4.out ⟨#[114, 111, 111, 116]⟩ ⟨#[47, 100, 47, 102]⟩ pF rfl (by decide) _ (bk_ok b0 b1 b2 v0 v1 v2 x ⟨#[114, 111, 111, 116]⟩ (bk_root x _)) (K4.out _ _ O3.out) k HK.out).mono ?_; rintro e w5 ⟨A5, c5, rfl, o5, t, kp⟩; have T5 := Lib.hid t; have kv1 := conv_own o5 HK.out; have kv2 := conv_rb ((HR.out.below (below_of_none t.gr)).more t.gr.size) HK.out; have kv3 := conv_own (kp _ _ O4.out) HK.out; clear t kp o5; clear hx TK5; have TK6 := Lib.hid True.intro))
        go_ret
        exact ⟨rfl, below_of_none T5.out.gr⟩
      · by_cases hw2 : who = annB
        · subst hw2
          simp only [annB]
          have HMO0 := Lib.hid (bk_ann x)
          cases h4 : (x &&& 32) != 0 with
          | true =>
            have HMO := Lib.hid (show mayOk annB 4 annB x = true by rw [HMO0.out]; exact h4)
            have hb4 := sh32_ok x HX.out h4
            clear h4
            go_enter Tryd.func3, Tryd.ntmps3
            go_wp2_with (first
              | (have hx := TK0; go_at_call 8; refine (speaks_any _).mono ?_; rintro e w0 ⟨rfl, g⟩; have G0 := Lib.hid g; clear g; clear hx TK0; have TK1 := Lib.hid True.intro)
              | (have hx := TK1; go_at_call 9; refine (TG.new _).mono ?_; rintro e w1 ⟨tb, mb, b0, v0, rfl, t0, g0⟩; have T1 := Lib.hid (t0.since G0.out); clear t0 g0; clear hx TK1; have TK2 := Lib.hid True.intro)
              | (have hx := TK2; go_at_call 10; refine (g_mkdir_ok T1.out ⟨_, rfl⟩ ⟨#[114, 111, 111, 116]⟩ ⟨#[47, 100]⟩ (by decide) pD rfl (by decide) 63 (ow_mk b0 v0)).mono ?_; rintro e w2 ⟨rfl, b1, v1, t⟩; have T2 := Lib.hid t; clear t; clear hx TK2; have TK3 := Lib.hid True.intro)
              | (have hx := TK3; go_at_call 11; refine (g_write_put T2.out ⟨_, rfl⟩ ⟨#[97, 110, 110]⟩ ⟨#[47, 100, 47, 102]⟩ (by decide) pF rfl (by decide) A l k cap HK.out ((HR.out.below (below_of_none T2.out.gr)).more T2.out.gr.size) (x : Int) (ow_wr b0 b1 v0 v1 (x : Int) ⟨by omega, by have := HX.out; omega⟩ k HK9.out) (ow_out b0 b1 v0 v1)).mono ?_; rintro e w3 ⟨rfl, b2, v2, t, o⟩; have T3 := Lib.hid t; have O3 := Lib.hid o; clear t o; clear hx TK3; have TK4 := Lib.hid True.intro)
              | (have hx := TK4; go_at_call 12; refine (g_read_ok T3.out ⟨#[97, 110, 110]⟩ ⟨#[47, 100, 47, 102]⟩ pF rfl (by decide) _ (bk_ok b0 b1 b2 v0 v1 v2 x ⟨#[97, 110, 110]⟩ HMO.out) O3.out k HK.out).mono ?_; rintro e w4 ⟨A4, c4, rfl, o, t, kp⟩; have T4 := Lib.hid t; have K4 := Lib.hid kp; have O4 := Lib.hid o; clear t kp o; clear hx TK4; have TK5 := Lib.hid True.intro)
              | (have hx := TK5; go_at_call 12; refine (g_read_ok T4.out ⟨#[114, 111, 111, 116]⟩ ⟨#[47, 100, 47, 102]⟩ pF rfl (by decide) _ (bk_ok b0 b1 b2 v0 v1 v2 x ⟨#[114, 111, 111, 116]⟩ (bk_root x _)) (K4.out _ _ O3.out) k HK.out).mono ?_; rintro e w5 ⟨A5, c5, rfl, o5, t, kp⟩; have T5 := Lib.hid t; have kv1 := conv_own o5 HK.out; have kv2 := conv_rb ((HR.out.below (below_of_none t.gr)).more t.gr.size) HK.out; have kv3 := conv_own (kp _ _ O4.out) HK.out; clear t kp o5; clear hx TK5; have TK6 := Lib.hid True.intro))
            go_ret
            exact ⟨rfl, below_of_none T5.out.gr⟩
          | false =>
            have HMO := Lib.hid (show mayOk annB 4 annB x = false by rw [HMO0.out]; exact h4)
            have hb4 := sh32_no x HX.out h4
            clear h4
            go_enter Tryd.func3, Tryd.ntmps3
            go_wp2_with (first
              | (have hx := TK0; go_at_call 8; refine (speaks_any _).mono ?_; rintro e w0 ⟨rfl, g⟩; have G0 := Lib.hid g; clear g; clear hx TK0; have TK1 := Lib.hid True.intro)
              | (have hx := TK1; go_at_call 9; refine (TG.new _).mono ?_; rintro e w1 ⟨tb, mb, b0, v0, rfl, t0, g0⟩; have T1 := Lib.hid (t0.since G0.out); clear t0 g0; clear hx TK1; have TK2 := Lib.hid True.intro)
              | (have hx := TK2; go_at_call 10; refine (g_mkdir_ok T1.out ⟨_, rfl⟩ ⟨#[114, 111, 111, 116]⟩ ⟨#[47, 100]⟩ (by decide) pD rfl (by decide) 63 (ow_mk b0 v0)).mono ?_; rintro e w2 ⟨rfl, b1, v1, t⟩; have T2 := Lib.hid t; clear t; clear hx TK2; have TK3 := Lib.hid True.intro)
              | (have hx := TK3; go_at_call 11; refine (g_write_put T2.out ⟨_, rfl⟩ ⟨#[97, 110, 110]⟩ ⟨#[47, 100, 47, 102]⟩ (by decide) pF rfl (by decide) A l k cap HK.out ((HR.out.below (below_of_none T2.out.gr)).more T2.out.gr.size) (x : Int) (ow_wr b0 b1 v0 v1 (x : Int) ⟨by omega, by have := HX.out; omega⟩ k HK9.out) (ow_out b0 b1 v0 v1)).mono ?_; rintro e w3 ⟨rfl, b2, v2, t, o⟩; have T3 := Lib.hid t; have O3 := Lib.hid o; clear t o; clear hx TK3; have TK4 := Lib.hid True.intro)
              | (have hx := TK4; go_at_call 12; refine (g_read_no T3.out ⟨#[97, 110, 110]⟩ ⟨#[47, 100, 47, 102]⟩ pF rfl (by decide) 114 (bk_no b0 b1 b2 v0 v1 v2 x ⟨#[97, 110, 110]⟩ HMO.out)).mono ?_; rintro e w4 ⟨rfl, t, kp⟩; have T4 := Lib.hid t; have K4 := Lib.hid kp; clear t kp; clear hx TK4; have TK5 := Lib.hid True.intro)
              | (have hx := TK5; go_at_call 12; refine (g_read_ok T4.out ⟨#[114, 111, 111, 116]⟩ ⟨#[47, 100, 47, 102]⟩ pF rfl (by decide) _ (bk_ok b0 b1 b2 v0 v1 v2 x ⟨#[114, 111, 111, 116]⟩ (bk_root x _)) (K4.out _ _ O3.out) k HK.out).mono ?_; rintro e w5 ⟨A5, c5, rfl, o5, t, kp⟩; have T5 := Lib.hid t; have kv1 := conv_own o5 HK.out; have kv2 := conv_rb ((HR.out.below (below_of_none t.gr)).more t.gr.size) HK.out; clear t kp o5; clear hx TK5; have TK6 := Lib.hid True.intro))
            go_ret
            exact ⟨rfl, below_of_none T5.out.gr⟩
        · have n1 := str_ne hw
          have n1' : (who.toList == [114, 111, 111, 116]) = false := by rw [show ([114, 111, 111, 116] : List UInt8) = rootB.toList from by rw [ByteArray.toList_eq]; rfl]; exact n1
          have n2' : (who.toList == [97, 110, 110]) = false := by rw [show ([97, 110, 110] : List UInt8) = annB.toList from by rw [ByteArray.toList_eq]; rfl]; exact str_ne hw2
          clear n1
          have HMO0 := Lib.hid (bk_oth x who hw hw2)
          clear hw hw2
          cases h4 : (x &&& 4) != 0 with
          | true =>
            have HMO := Lib.hid (show mayOk who 4 annB x = true by rw [HMO0.out]; exact h4)
            have hb4 := sh4_ok x HX.out h4
            clear h4
            go_enter Tryd.func3, Tryd.ntmps3
            go_wp2_with (first
              | (have hx := TK0; go_at_call 8; refine (speaks_any _).mono ?_; rintro e w0 ⟨rfl, g⟩; have G0 := Lib.hid g; clear g; clear hx TK0; have TK1 := Lib.hid True.intro)
              | (have hx := TK1; go_at_call 9; refine (TG.new _).mono ?_; rintro e w1 ⟨tb, mb, b0, v0, rfl, t0, g0⟩; have T1 := Lib.hid (t0.since G0.out); clear t0 g0; clear hx TK1; have TK2 := Lib.hid True.intro)
              | (have hx := TK2; go_at_call 10; refine (g_mkdir_ok T1.out ⟨_, rfl⟩ ⟨#[114, 111, 111, 116]⟩ ⟨#[47, 100]⟩ (by decide) pD rfl (by decide) 63 (ow_mk b0 v0)).mono ?_; rintro e w2 ⟨rfl, b1, v1, t⟩; have T2 := Lib.hid t; clear t; clear hx TK2; have TK3 := Lib.hid True.intro)
              | (have hx := TK3; go_at_call 11; refine (g_write_put T2.out ⟨_, rfl⟩ ⟨#[97, 110, 110]⟩ ⟨#[47, 100, 47, 102]⟩ (by decide) pF rfl (by decide) A l k cap HK.out ((HR.out.below (below_of_none T2.out.gr)).more T2.out.gr.size) (x : Int) (ow_wr b0 b1 v0 v1 (x : Int) ⟨by omega, by have := HX.out; omega⟩ k HK9.out) (ow_out b0 b1 v0 v1)).mono ?_; rintro e w3 ⟨rfl, b2, v2, t, o⟩; have T3 := Lib.hid t; have O3 := Lib.hid o; clear t o; clear hx TK3; have TK4 := Lib.hid True.intro)
              | (have hx := TK4; go_at_call 12; refine (g_read_ok T3.out who ⟨#[47, 100, 47, 102]⟩ pF rfl (by decide) _ (bk_ok b0 b1 b2 v0 v1 v2 x who HMO.out) O3.out k HK.out).mono ?_; rintro e w4 ⟨A4, c4, rfl, o, t, kp⟩; have T4 := Lib.hid t; have K4 := Lib.hid kp; have O4 := Lib.hid o; clear t kp o; clear hx TK4; have TK5 := Lib.hid True.intro)
              | (have hx := TK5; go_at_call 12; refine (g_read_ok T4.out ⟨#[114, 111, 111, 116]⟩ ⟨#[47, 100, 47, 102]⟩ pF rfl (by decide) _ (bk_ok b0 b1 b2 v0 v1 v2 x ⟨#[114, 111, 111, 116]⟩ (bk_root x _)) (K4.out _ _ O3.out) k HK.out).mono ?_; rintro e w5 ⟨A5, c5, rfl, o5, t, kp⟩; have T5 := Lib.hid t; have kv1 := conv_own o5 HK.out; have kv2 := conv_rb ((HR.out.below (below_of_none t.gr)).more t.gr.size) HK.out; have kv3 := conv_own (kp _ _ O4.out) HK.out; clear t kp o5; clear hx TK5; have TK6 := Lib.hid True.intro))
            go_ret
            exact ⟨rfl, below_of_none T5.out.gr⟩
          | false =>
            have HMO := Lib.hid (show mayOk who 4 annB x = false by rw [HMO0.out]; exact h4)
            have hb4 := sh4_no x HX.out h4
            clear h4
            go_enter Tryd.func3, Tryd.ntmps3
            go_wp2_with (first
              | (have hx := TK0; go_at_call 8; refine (speaks_any _).mono ?_; rintro e w0 ⟨rfl, g⟩; have G0 := Lib.hid g; clear g; clear hx TK0; have TK1 := Lib.hid True.intro)
              | (have hx := TK1; go_at_call 9; refine (TG.new _).mono ?_; rintro e w1 ⟨tb, mb, b0, v0, rfl, t0, g0⟩; have T1 := Lib.hid (t0.since G0.out); clear t0 g0; clear hx TK1; have TK2 := Lib.hid True.intro)
              | (have hx := TK2; go_at_call 10; refine (g_mkdir_ok T1.out ⟨_, rfl⟩ ⟨#[114, 111, 111, 116]⟩ ⟨#[47, 100]⟩ (by decide) pD rfl (by decide) 63 (ow_mk b0 v0)).mono ?_; rintro e w2 ⟨rfl, b1, v1, t⟩; have T2 := Lib.hid t; clear t; clear hx TK2; have TK3 := Lib.hid True.intro)
              | (have hx := TK3; go_at_call 11; refine (g_write_put T2.out ⟨_, rfl⟩ ⟨#[97, 110, 110]⟩ ⟨#[47, 100, 47, 102]⟩ (by decide) pF rfl (by decide) A l k cap HK.out ((HR.out.below (below_of_none T2.out.gr)).more T2.out.gr.size) (x : Int) (ow_wr b0 b1 v0 v1 (x : Int) ⟨by omega, by have := HX.out; omega⟩ k HK9.out) (ow_out b0 b1 v0 v1)).mono ?_; rintro e w3 ⟨rfl, b2, v2, t, o⟩; have T3 := Lib.hid t; have O3 := Lib.hid o; clear t o; clear hx TK3; have TK4 := Lib.hid True.intro)
              | (have hx := TK4; go_at_call 12; refine (g_read_no T3.out who ⟨#[47, 100, 47, 102]⟩ pF rfl (by decide) 114 (bk_no b0 b1 b2 v0 v1 v2 x who HMO.out)).mono ?_; rintro e w4 ⟨rfl, t, kp⟩; have T4 := Lib.hid t; have K4 := Lib.hid kp; clear t kp; clear hx TK4; have TK5 := Lib.hid True.intro)
              | (have hx := TK5; go_at_call 12; refine (g_read_ok T4.out ⟨#[114, 111, 111, 116]⟩ ⟨#[47, 100, 47, 102]⟩ pF rfl (by decide) _ (bk_ok b0 b1 b2 v0 v1 v2 x ⟨#[114, 111, 111, 116]⟩ (bk_root x _)) (K4.out _ _ O3.out) k HK.out).mono ?_; rintro e w5 ⟨A5, c5, rfl, o5, t, kp⟩; have T5 := Lib.hid t; have kv1 := conv_own o5 HK.out; have kv2 := conv_rb ((HR.out.below (below_of_none t.gr)).more t.gr.size) HK.out; clear t kp o5; clear hx TK5; have TK6 := Lib.hid True.intro))
            go_ret
            exact ⟨rfl, below_of_none T5.out.gr⟩
  · have HM := Lib.hid hm
    by_cases m1 : m < 0
    · clear hm h9 h8
      go_enter Tryd.func3, Tryd.ntmps3
      go_wp2_with (first
        | (have hx := TK0; go_at_call 8; refine (speaks_any _).mono ?_; rintro e w0 ⟨rfl, g⟩; have G0 := Lib.hid g; clear g; clear hx TK0; have TK1 := Lib.hid True.intro)
        | (have hx := TK1; go_at_call 9; refine (TG.new _).mono ?_; rintro e w1 ⟨tb, mb, b0, v0, rfl, t0, g0⟩; have T1 := Lib.hid (t0.since G0.out); clear t0 g0; clear hx TK1; have TK2 := Lib.hid True.intro)
        | (have hx := TK2; go_at_call 10; refine (g_mkdir_ok T1.out ⟨_, rfl⟩ ⟨#[114, 111, 111, 116]⟩ ⟨#[47, 100]⟩ (by decide) pD rfl (by decide) 63 (ow_mk b0 v0)).mono ?_; rintro e w2 ⟨rfl, b1, v1, t⟩; have T2 := Lib.hid t; clear t; clear hx TK2; have TK3 := Lib.hid True.intro)
        | (have hx := TK3; go_at_call 11; refine (g_write_no T2.out ⟨_, rfl⟩ (by simp) ⟨#[97, 110, 110]⟩ ⟨#[47, 100, 47, 102]⟩ pF rfl (by decide) A k cap m 1 (bk_w1 b0 b1 v0 v1 k m HM.out) (by decide)).mono ?_; rintro e w3 ⟨rfl, t, kp⟩; have T3 := Lib.hid t; have K3 := Lib.hid kp; clear t kp; clear hx TK3; have TK4 := Lib.hid True.intro))
      go_ret
      exact ⟨rfl, below_of_none T3.out.gr⟩
    · have m2 : 63 < m := by omega
      clear hm h9 h8
      go_enter Tryd.func3, Tryd.ntmps3
      go_wp2_with (first
        | (have hx := TK0; go_at_call 8; refine (speaks_any _).mono ?_; rintro e w0 ⟨rfl, g⟩; have G0 := Lib.hid g; clear g; clear hx TK0; have TK1 := Lib.hid True.intro)
        | (have hx := TK1; go_at_call 9; refine (TG.new _).mono ?_; rintro e w1 ⟨tb, mb, b0, v0, rfl, t0, g0⟩; have T1 := Lib.hid (t0.since G0.out); clear t0 g0; clear hx TK1; have TK2 := Lib.hid True.intro)
        | (have hx := TK2; go_at_call 10; refine (g_mkdir_ok T1.out ⟨_, rfl⟩ ⟨#[114, 111, 111, 116]⟩ ⟨#[47, 100]⟩ (by decide) pD rfl (by decide) 63 (ow_mk b0 v0)).mono ?_; rintro e w2 ⟨rfl, b1, v1, t⟩; have T2 := Lib.hid t; clear t; clear hx TK2; have TK3 := Lib.hid True.intro)
        | (have hx := TK3; go_at_call 11; refine (g_write_no T2.out ⟨_, rfl⟩ (by simp) ⟨#[97, 110, 110]⟩ ⟨#[47, 100, 47, 102]⟩ pF rfl (by decide) A k cap m 1 (bk_w1 b0 b1 v0 v1 k m HM.out) (by decide)).mono ?_; rintro e w3 ⟨rfl, t, kp⟩; have T3 := Lib.hid t; have K3 := Lib.hid kp; clear t kp; clear hx TK3; have TK4 := Lib.hid True.intro))
      go_ret
      exact ⟨rfl, below_of_none T3.out.gr⟩
end Go.Proofs.YtmbmahpklkcioaaDoor
