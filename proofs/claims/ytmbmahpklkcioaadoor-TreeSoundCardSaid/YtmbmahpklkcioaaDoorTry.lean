/- The walk of TreeOwner. -/
import Derived.Test.YtmbmahpklkcioaaDoorTrx
namespace Go.Proofs.YtmbmahpklkcioaaDoor
open Go.RowKit Go.Maps Go.WideMaps

theorem and_low (k : Int) (j : Nat) (hj : j ≤ 62) : ∃ m : Nat, m < 2 ^ j ∧ bits .and .i64 k ((2 ^ j - 1 : Nat) : Int) = (m : Int) := by
  have hp : 2 ^ j ≤ 2 ^ 62 := Nat.pow_le_pow_right (by decide) hj
  have h2 : (2 : Nat) ^ 62 = 4611686018427387904 := by decide
  refine ⟨(BitVec.ofInt 64 k).toNat % 2 ^ j, Nat.mod_lt _ (Nat.two_pow_pos j), ?_⟩
  have hb : (BitVec.ofInt 64 (((2 ^ j - 1 : Nat) : Int))).toNat = 2 ^ j - 1 := by
    rw [BitVec.ofInt_natCast, BitVec.toNat_ofNat]
    exact Nat.mod_eq_of_lt (by omega)
  have hm := Nat.mod_lt (BitVec.ofInt 64 k).toNat (Nat.two_pow_pos j)
  show IntKind.i64.wrap (((BitVec.ofInt 64 k &&& BitVec.ofInt 64 ((2 ^ j - 1 : Nat) : Int)).toNat : Nat) : Int) = _
  rw [BitVec.toNat_and, hb, Nat.and_two_pow_sub_one_eq_mod, IntKind.wrap_i64]
  omega
theorem strTy : Tryd.prog.underlying 9 = some .string := Tryd.underlying9
theorem conv_rb {w : World} {B : Nat} {A : Option Addr} {l : List UInt8} {c k : Nat} (h : RB w B A l c) (hk : l.length = k) : (convert 22 9 (.slice A k c)).run Tryd.prog w = .ok (.string ⟨l.toArray⟩) w := by
  subst hk
  exact run_strB byteT strTy h
theorem conv_own {w : World} {A : Option Addr} {l : List UInt8} {c k : Nat} (h : OwnB w 0 5 (.slice A k c) l) (hk : l.length = k) : (convert 22 9 (.slice A k c)).run Tryd.prog w = .ok (.string ⟨l.toArray⟩) w := by
  obtain ⟨A', c', e, hr, -⟩ := h.shape
  simp only [Value.slice.injEq] at e
  obtain ⟨rfl, -, rfl⟩ := e
  exact conv_rb hr hk
def pD : List UInt8 := [47, 100]
def pF : List UInt8 := [47, 100, 47, 102]
section
variable (b0 b1 b2 : Nat) (v0 v1 v2 : Value) (q : Nat)
theorem ow_mk : mkdirC [([47], ⟨b0, true, rootB, 61, v0⟩)] rootB pD 63 = 0 := by kernel_rfl
theorem writeC_put {M : List (List UInt8 × Nd)} {who : ByteArray} {p : List UInt8} {k : Nat} {m : Int} (h : (comeR M who p).2 = 0) (hm : 0 ≤ m ∧ m ≤ 63) (hk : k ≤ 1000) (hl : M.lookup p = none) (ha : addC M who p = 0) : writeC M who p k m = 0 := by
  unfold writeC
  rw [h, if_neg (by decide), if_neg (by simpa using hm), if_neg (by omega), hl]
  exact ha
theorem ow_out : List.lookup pF [([47], (⟨b0, true, rootB, 61, v0⟩ : Nd)), (pD, ⟨b1, true, rootB, 63, v1⟩)] = none := by kernel_rfl
theorem ow_wr (m : Int) (hm : 0 ≤ m ∧ m ≤ 63) (k : Nat) (hk : k ≤ 1000) : writeC [([47], ⟨b0, true, rootB, 61, v0⟩), (pD, ⟨b1, true, rootB, 63, v1⟩)] annB pF k m = 0 :=
  writeC_put (by kernel_rfl) hm hk (by kernel_rfl) (by kernel_rfl)
theorem ow_r1 (hq : q ≤ 7) : readR [([47], ⟨b0, true, rootB, 61, v0⟩), (pD, ⟨b1, true, rootB, 63, v1⟩), (pF, ⟨b2, false, annB, q, v2⟩)] annB pF = (none, 114) := by
  rcases (show q = 0 ∨ q = 1 ∨ q = 2 ∨ q = 3 ∨ q = 4 ∨ q = 5 ∨ q = 6 ∨ q = 7 by omega) with rfl | rfl | rfl | rfl | rfl | rfl | rfl | rfl <;> kernel_rfl
theorem ow_w2 (hq : q ≤ 7) : writeC [([47], ⟨b0, true, rootB, 61, v0⟩), (pD, ⟨b1, true, rootB, 63, v1⟩), (pF, ⟨b2, false, annB, q, v2⟩)] annB pF 0 0 = 114 := by
  rcases (show q = 0 ∨ q = 1 ∨ q = 2 ∨ q = 3 ∨ q = 4 ∨ q = 5 ∨ q = 6 ∨ q = 7 by omega) with rfl | rfl | rfl | rfl | rfl | rfl | rfl | rfl <;> kernel_rfl
theorem ow_cb : chmodR [([47], ⟨b0, true, rootB, 61, v0⟩), (pD, ⟨b1, true, rootB, 63, v1⟩), (pF, ⟨b2, false, annB, q, v2⟩)] bobB pF 63 = (114, none) := by kernel_rfl
theorem ow_ca : chmodR [([47], ⟨b0, true, rootB, 61, v0⟩), (pD, ⟨b1, true, rootB, 63, v1⟩), (pF, ⟨b2, false, annB, q, v2⟩)] annB pF (56 : Nat) = (0, some ⟨b2, false, annB, q, v2⟩) := by kernel_rfl
theorem ow_in : (pF, (⟨b2, false, annB, q, v2⟩ : Nd)) ∈ [([47], (⟨b0, true, rootB, 61, v0⟩ : Nd)), (pD, ⟨b1, true, rootB, 63, v1⟩), (pF, ⟨b2, false, annB, q, v2⟩)] := by simp
theorem ow_r3 : readR (turn pF (fun x => { x with mode := 56 }) [([47], ⟨b0, true, rootB, 61, v0⟩), (pD, ⟨b1, true, rootB, 63, v1⟩), (pF, ⟨b2, false, annB, q, v2⟩)]) annB pF = (some ⟨b2, false, annB, 56, v2⟩, 0) := by kernel_rfl
theorem ow_r4 : readR (turn pF (fun x => { x with mode := 56 }) [([47], ⟨b0, true, rootB, 61, v0⟩), (pD, ⟨b1, true, rootB, 63, v1⟩), (pF, ⟨b2, false, annB, q, v2⟩)]) bobB pF = (none, 114) := by kernel_rfl
end

set_option maxRecDepth 10000 in
set_option maxHeartbeats 8000000 in
theorem walk_TreeOwner (w : World) (A : Option Addr) (l : List UInt8) (cap : Nat) (hr : RB w w.heap.size A l cap) (m : Int) (_hm : (Lit.int .i64 m).wf = true) : Calls Tryd.prog 7 #[.slice A l.length cap, .int .i64 m] w fun e w' => e = .returned (.bool true) ∧ Below w.heap.size w w' := by
  obtain ⟨k, hk⟩ : ∃ k, l.length = k := ⟨_, rfl⟩
  have HR := Lib.hid hr
  have HK := Lib.hid hk
  rw [hk]
  clear hr hk
  have TK0 := Lib.hid True.intro
  by_cases h9 : 900 < k
  · have h9i : (900 : Int) < (k : Int) := by omega
    go_enter Tryd.func7, Tryd.ntmps7
    go_wp2_with (have hx := TK0; go_at_call 8; refine (speaks_any _).mono ?_; rintro e w0 ⟨rfl, g⟩; have G0 := Lib.hid g; clear g; clear hx TK0; have TK1 := Lib.hid True.intro)
    go_ret
    exact ⟨rfl, below_of_none G0.out⟩
  have h9i : ¬ (900 : Int) < (k : Int) := by omega
  have HK9 := Lib.hid (show k ≤ 900 by omega)
  obtain ⟨q, hq, hb⟩ := and_low m 3 (by decide)
  replace hb : bits .and .i64 m 7 = (q : Int) := hb
  have HQ := Lib.hid (show q ≤ 7 by omega)
  clear h9 hq
  go_enter Tryd.func7, Tryd.ntmps7
  go_wp2_with (first
    | (have hx := TK0; go_at_call 8; refine (speaks_any _).mono ?_; rintro e w0 ⟨rfl, g⟩; have G0 := Lib.hid g; clear g; clear hx TK0; have TK1 := Lib.hid True.intro)
    | (have hx := TK1; go_at_call 9; refine (TG.new _).mono ?_; rintro e w1 ⟨tb, mb, b0, v0, rfl, t0, g0⟩; have T1 := Lib.hid (t0.since G0.out); clear t0 g0; clear hx TK1; have TK2 := Lib.hid True.intro)
    | (have hx := TK2; go_at_call 10; refine (g_mkdir_ok T1.out ⟨_, rfl⟩ ⟨#[114, 111, 111, 116]⟩ ⟨#[47, 100]⟩ (by decide) pD rfl (by decide) 63 (ow_mk b0 v0)).mono ?_; rintro e w2 ⟨rfl, b1, v1, t⟩; have T2 := Lib.hid t; clear t; clear hx TK2; have TK3 := Lib.hid True.intro)
    | (have hx := TK3; go_at_call 11; refine (g_write_put T2.out ⟨_, rfl⟩ ⟨#[97, 110, 110]⟩ ⟨#[47, 100, 47, 102]⟩ (by decide) pF rfl (by decide) A l k cap HK.out ((HR.out.below (below_of_none T2.out.gr)).more T2.out.gr.size) (q : Int) (ow_wr b0 b1 v0 v1 (q : Int) ⟨by omega, by have := HQ.out; omega⟩ k (by have := HK9.out; omega)) (ow_out b0 b1 v0 v1)).mono ?_; rintro e w3 ⟨rfl, b2, v2, t, o⟩; have T3 := Lib.hid t; have O3 := Lib.hid o; clear t o; clear hx TK3; have TK4 := Lib.hid True.intro)
    | (have hx := TK4; go_at_call 12; refine (g_read_no T3.out ⟨#[97, 110, 110]⟩ ⟨#[47, 100, 47, 102]⟩ pF rfl (by decide) 114 (ow_r1 b0 b1 b2 v0 v1 v2 q HQ.out)).mono ?_; rintro e w4 ⟨rfl, t, kp⟩; have T4 := Lib.hid t; have K4 := Lib.hid kp; clear t kp; clear hx TK4; have TK5 := Lib.hid True.intro)
    | (have hx := TK5; go_at_call 11; refine (g_write_no T4.out ⟨_, rfl⟩ (by simp) ⟨#[97, 110, 110]⟩ ⟨#[47, 100, 47, 102]⟩ pF rfl (by decide) none 0 0 0 114 (ow_w2 b0 b1 b2 v0 v1 v2 q HQ.out) (by decide)).mono ?_; rintro e w5 ⟨rfl, t, kp⟩; have T5 := Lib.hid t; have K5 := Lib.hid kp; clear t kp; clear hx TK5; have TK6 := Lib.hid True.intro)
    | (have hx := TK6; go_at_call 18; refine (g_chmod_no T5.out ⟨#[98, 111, 98]⟩ ⟨#[47, 100, 47, 102]⟩ pF rfl (by decide) 63 114 (ow_cb b0 b1 b2 v0 v1 v2 q)).mono ?_; rintro e w6 ⟨rfl, t, kp⟩; have T6 := Lib.hid t; have K6 := Lib.hid kp; clear t kp; clear hx TK6; have TK7 := Lib.hid True.intro)
    | (have hx := TK7; go_at_call 18; refine (g_chmod_ok T6.out ⟨#[97, 110, 110]⟩ ⟨#[47, 100, 47, 102]⟩ pF rfl (by decide) 56 (by decide) _ (ow_ca b0 b1 b2 v0 v1 v2 q) (ow_in b0 b1 b2 v0 v1 v2 q)).mono ?_; rintro e w7 ⟨rfl, t, kp⟩; have T7 := Lib.hid t; have K7 := Lib.hid kp; clear t kp; clear hx TK7; have TK8 := Lib.hid True.intro)
    | (have hx := TK8; go_at_call 12; refine (g_read_ok T7.out ⟨#[97, 110, 110]⟩ ⟨#[47, 100, 47, 102]⟩ pF rfl (by decide) _ (ow_r3 b0 b1 b2 v0 v1 v2 q) (K7.out _ _ (K6.out _ _ (K5.out _ _ (K4.out _ _ O3.out)))) k HK.out).mono ?_; rintro e w8 ⟨A8, c8, rfl, o, t, kp⟩; have T8 := Lib.hid t; have K8 := Lib.hid kp; have O8 := Lib.hid o; clear t kp o; clear hx TK8; have TK9 := Lib.hid True.intro)
    | (have hx := TK9; go_at_call 12; refine (g_read_no T8.out ⟨#[98, 111, 98]⟩ ⟨#[47, 100, 47, 102]⟩ pF rfl (by decide) 114 (ow_r4 b0 b1 b2 v0 v1 v2 q)).mono ?_; rintro e w9 ⟨rfl, t, kp⟩; have T9 := Lib.hid t; have kv1 := conv_own (kp _ _ O8.out) HK.out; have kv2 := conv_rb ((HR.out.below (below_of_none t.gr)).more t.gr.size) HK.out; clear t kp; clear hx TK9; have TK10 := Lib.hid True.intro))
  go_ret
  exact ⟨rfl, below_of_none T9.out.gr⟩
end Go.Proofs.YtmbmahpklkcioaaDoor
