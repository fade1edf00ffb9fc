/- The walk of PtyPlain. -/
import Derived.Test.YtbkaabimafipoaaPth
namespace Go.Proofs.Ytbkaabimafipoaa
open Go.ChangeShapes Go.WideShapes Go.RowKit

theorem len_crlf (s : ByteArray) : (s.data.toList ++ [13, 10] : List UInt8).length = s.size + 2 := List.length_append
theorem sb_crlf (s : ByteArray) : (⟨(s.data.toList ++ [13, 10] : List UInt8).toArray⟩ : ByteArray) = s ++ ⟨#[13, 10]⟩ := by
  apply ByteArray.ext
  simp
set_option maxRecDepth 20000 in
set_option maxHeartbeats 8000000 in
theorem walk_PtyPlain (w : World) (s o : ByteArray) : Calls Try.prog 5 #[.string s, .string o] w fun e w' => e = .returned (.bool true) ∧ Below w.heap.size w w' := by
  by_cases h1 : 80 < s.size
  · have h1i : (80 : Int) < (s.size : Int) := by omega
    go_enter Try.func5, Try.ntmps5
    go_wp2_with (go_at_call 7; refine (speaks_any _).mono ?_; rintro e w1 ⟨rfl, g1⟩; have G1 := Lib.hid g1; clear g1)
    go_ret
    exact ⟨rfl, below_of_none G1.out⟩
  have h1i : ¬ (80 : Int) < (s.size : Int) := by omega
  by_cases h2 : 200 < o.size
  · have h2i : (200 : Int) < (o.size : Int) := by omega
    go_enter Try.func5, Try.ntmps5
    go_wp2_with (go_at_call 7; refine (speaks_any _).mono ?_; rintro e w1 ⟨rfl, g1⟩; have G1 := Lib.hid g1; clear g1)
    go_ret
    exact ⟨rfl, below_of_none G1.out⟩
  have h2i : ¬ (200 : Int) < (o.size : Int) := by omega
  have LS := Lib.hid (show s.size ≤ 80 by omega)
  have LO := Lib.hid (show o.size ≤ 200 by omega)
  clear h1 h2
  go_enter Try.func5, Try.ntmps5
  go_wp2_with (go_at_call 7; refine (speaks_any _).mono ?_; rintro e w1 ⟨rfl, g1⟩; have G1 := Lib.hid g1; clear g1)
  go_loopw [5] (fun s5 wr => ∃ k : Nat, s5 = .int .i64 k ∧ k ≤ s.size ∧ (s.data.toList.take k).all plainB = true ∧ w.grownBy wr none) (fun s5 _ => s.size - (intOf s5).toNat)
  case atStart => exact ⟨0, rfl, Nat.zero_le _, by simp, G1.out⟩
  case round =>
    obtain ⟨k, rfl, hk, ha, hg⟩ := hrel
    have GR := Lib.hid hg
    clear hg
    by_cases hks : k < s.size
    · have hki : (k : Int) < (s.size : Int) := by omega
      have hkw : IntKind.i64.wrap ((k : Int) + 1) = ((k + 1 : Nat) : Int) := by have := LS.out; simp [IntKind.wrap, IntKind.bits, IntKind.signed]; omega
      have hkl : k < s.data.toList.length := hks
      have hx := all_take s.data.toList plainB k hkl
      have hgg : s[k]'hks = s.data.toList[k] := by simp [ByteArray.getElem_eq_getElem_data]
      obtain ⟨c, hc⟩ : ∃ c, c = s.data.toList[k] := ⟨_, rfl⟩
      rw [← hc] at hx hgg
      have HX := Lib.hid (show plainB c = true → (s.data.toList.take (k + 1)).all plainB = true by intro hp; rw [hx, ha, hp]; rfl)
      clear ha hx hc hkl
      by_cases hlo : c.toNat < 32
      · have hl1 : (c.toNat : Int) < 32 := by omega
        clear HX
        go_wp2
        go_ret
        exact ⟨rfl, below_of_none GR.out⟩
      have hl1 : ¬ (c.toNat : Int) < 32 := by omega
      by_cases hhi : 126 < c.toNat
      · have hl2 : (126 : Int) < (c.toNat : Int) := by omega
        clear HX
        go_wp2
        go_ret
        exact ⟨rfl, below_of_none GR.out⟩
      have hl2 : ¬ (126 : Int) < (c.toNat : Int) := by omega
      have HP := Lib.hid (show plainB c = true by simp [plainB]; omega)
      clear hlo hhi
      go_wp2
      go_roundw
      case rel => exact ⟨k + 1, by first | rfl | go_num, by omega, HX.out HP.out, GR.out⟩
      case measure => simp [intOf]; omega
    · have hki : ¬ (k : Int) < (s.size : Int) := by omega
      have PL := Lib.hid (show s.data.toList.all plainB = true by rw [List.take_of_length_le (show s.data.toList.length ≤ k by show s.size ≤ k; omega)] at ha; exact ha)
      have z2 : ¬ 9223372036854775807 < s.size + 2 := by have := LS.out; omega
      have TK0 := Lib.hid True.intro
      clear ha hk hks
      go_wp2_with (first
        | (have hx := TK0; go_at_call 9; refine (new_any _).mono ?_; rintro e w2 ⟨rfl, p2, g2⟩; have P2 := Lib.hid p2; have G2 := Lib.hid (grown_trans' GR.out g2); have B2 := Lib.hid (show w.heap.size ≤ wr.heap.size from GR.out.size); have S2 := Lib.hid (show wr.heap.size ≤ w2.heap.size from g2.size); clear p2 g2 hx TK0; have TK1 := Lib.hid True.intro)
        | (have hx := TK1; refine wpList_convG byteT strTy rfl (.tmp 39) rfl o (by have := LO.out; omega) (by first | rfl | go_simp) ?_; intro v3 w3 o3 g3 b3; obtain ⟨A3, c3, rfl, r3, d3⟩ := o3.shape; have R3 := Lib.hid r3; have P3 := Lib.hid (P2.out.made g3); have G3 := Lib.hid (grown_trans' G2.out g3); have S3 := Lib.hid (Nat.le_trans S2.out g3.size); have AP3 := Lib.hid (P2.out.apart (A := A3) (n := o.data.toList.length) (c := c3) (fun g hg => (d3 g hg).1) o.data.toList); clear o3 g3 b3 r3 d3 hx TK1; have TK2 := Lib.hid True.intro)
        | (have hx := TK2; go_at_call 10; refine (feed_own G3.out P3.out B2.out S3.out _ o.data.toList _ c3 rfl R3.out AP3.out (by have : o.data.toList.length = o.size := rfl; have := LO.out; omega) (by simp) (by simp)).mono ?_; rintro e w4 ⟨v4, A4, c4, A4', c4', rfl, p4, -, -, g4⟩; have P4 := Lib.hid p4; have G4 := Lib.hid g4; have S4 := Lib.hid (show wr.heap.size ≤ w4.heap.size from Nat.le_of_lt (Nat.lt_of_le_of_lt p4.lt.1 p4.lt.2)); have L4 := Lib.hid (fdF_line (s := ⟨[], 0, false⟩) (by simp) o.data.toList); have T4 := Lib.hid (fdF_stops ⟨[], 0, false⟩ o.data.toList); clear p4 g4 hx TK2; have TK3 := Lib.hid True.intro)
        | (have hx := TK3; go_at_call 10; refine (feed_own (grown_trans' G4.out (grown_alloc _ _ none)) (P4.out.alloc _) B2.out (by rw [World.size_alloc]; have := S4.out; omega) _ [21] 1 1 rfl (rb1 _ _ 21 21 rfl) (fun a ha _ => by injection ha with ha; subst ha; exact ⟨by have := P4.out.lt.2; simp; omega, fun e => by have := (P4.out.vlt _ e).2.1; simp at this⟩) (by omega) L4.out (by have := T4.out; have e : o.data.toList.length = o.size := rfl; have := LO.out; have e2 : (Tm.mk [] 0 false).stops = 0 := rfl; omega)).mono ?_; rintro e w5 ⟨v5, A5, c5, A5', c5', rfl, p5, -, -, g5⟩; rw [fdF_21] at p5; have P5 := Lib.hid p5; have G5 := Lib.hid g5; have S5 := Lib.hid (show wr.heap.size ≤ w5.heap.size from Nat.le_of_lt (Nat.lt_of_le_of_lt p5.lt.1 p5.lt.2)); clear p5 g5 hx TK3; have TK4 := Lib.hid True.intro)
        | (have hx := TK4; refine wpList_convG byteT strTy rfl (.tmp 48) rfl (s ++ ⟨#[13, 10]⟩) (by rw [ByteArray.size_append]; have := LS.out; have : (⟨#[13, 10]⟩ : ByteArray).size = 2 := rfl; omega) (by first | rfl | go_simp) ?_; intro v6 w6 o6 g6 b6; rw [app_toList] at o6; obtain ⟨A6, c6, rfl, r6, d6⟩ := o6.shape; have R6 := Lib.hid r6; have P6 := Lib.hid (P5.out.made g6); have G6 := Lib.hid (grown_trans' G5.out g6); have S6 := Lib.hid (Nat.le_trans S5.out g6.size); have AP6 := Lib.hid (P5.out.apart (A := A6) (n := (s.data.toList ++ [13, 10]).length) (c := c6) (fun g hg => (d6 g hg).1) (s.data.toList ++ [13, 10])); clear o6 g6 b6 r6 d6 hx TK4; have TK5 := Lib.hid True.intro)
        | (have hx := TK5; go_at_call 10; refine (feed_own G6.out P6.out B2.out S6.out _ (s.data.toList ++ [13, 10]) (s.size + 2) c6 (by rw [List.length_append]; rfl) R6.out AP6.out (by have := LS.out; omega) (by simp) (by have := T4.out; have e : o.data.toList.length = o.size := rfl; have := LO.out; show (fdF ⟨[], 0, false⟩ o.data.toList).1.stops ≤ _; have e2 : (Tm.mk [] 0 false).stops = 0 := rfl; omega)).mono ?_; rintro e w7 ⟨v7, A7, c7, A8, c8, rfl, p7, r7, r8, g7⟩; rw [fdF_typed PL.out (by have : s.data.toList.length = s.size := rfl; have := LS.out; omega) _ rfl] at p7 r7 r8 ⊢; rw [show ([s.data.toList] : List (List UInt8)).map sb = [s] by simp [sb_toList]] at r8; have P7 := Lib.hid p7; have G7 := Lib.hid g7; have R7 := Lib.hid r7; have R8 := Lib.hid r8; clear p7 g7 r7 r8 hx TK5; have TK6 := Lib.hid True.intro)
        | (have hx := TK6; go_at_call 12; refine (same_true _ _ _ [s] 1 _ _ _ _ rfl (R8.out.alloc (Nat.le_refl _) _) (rs1 _ _ _) (by omega)).mono ?_; rintro e w8 ⟨rfl, m8, hw8⟩; have kv := run_strB byteT strTy ((R7.out.alloc (Nat.le_refl _) (.cells #[.string s] 9)).drewN m8); rw [← hw8] at kv; rw [len_crlf, sb_crlf] at kv; have P8 := Lib.hid (show PT w8 _ _ _ _ by rw [hw8]; exact (P7.out.alloc (.cells #[.string s] 9)).made (grown_drewN (World.grownBy.refl _ _) m8)); have G8 := Lib.hid (show w.grownBy w8 none by rw [hw8]; exact grown_drewN (grown_trans' G7.out (grown_alloc _ _ _)) _); clear hw8 hx TK6; have TK7 := Lib.hid True.intro)
        | (have hx := TK7; go_at_call 13; refine (line_any P8.out).mono ?_; rintro e w9 ⟨rfl, rfl⟩; rw [show sb (Tm.line ⟨[], _, _⟩) = ⟨#[]⟩ from rfl]))
      go_ret
      exact ⟨rfl, below_of_none G8.out⟩
end Go.Proofs.Ytbkaabimafipoaa
