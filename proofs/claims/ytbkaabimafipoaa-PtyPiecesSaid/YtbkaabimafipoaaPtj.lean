/- The walk of PtyRubs. -/
import Derived.Test.YtbkaabimafipoaaPti
namespace Go.Proofs.Ytbkaabimafipoaa
open Go.ChangeShapes Go.WideShapes Go.RowKit

theorem ofInt_i64 (a : Nat) (ha : a < 4611686018427387904) : (BitVec.ofInt 64 (a : Int)).toNat = a := by
  rw [BitVec.ofInt_natCast, BitVec.toNat_ofNat]
  exact Nat.mod_eq_of_lt (by omega)
theorem idx0 (s o : ByteArray) (W : World) : (Instr.index 40 (.agg #[.string s, .string o]) (.int .i64 0)).run Try.prog W = .ok (.string s) W := by kernel_rfl
theorem idx1 (s o : ByteArray) (W : World) : (Instr.index 40 (.agg #[.string s, .string o]) (.int .i64 1)).run Try.prog W = .ok (.string o) W := by kernel_rfl
theorem and_one (a : Nat) (ha : a < 4611686018427387904) : bits .and .i64 (a : Int) 1 = ((a % 2 : Nat) : Int) := by
  show IntKind.i64.wrap ((BitVec.ofInt 64 (a : Int) &&& BitVec.ofInt 64 (1 : Int)).toNat : Int) = _
  rw [BitVec.toNat_and, ofInt_i64 a ha, show (BitVec.ofInt 64 (1 : Int)).toNat = 1 from rfl, Nat.and_one_is_mod, IntKind.wrap_i64]
  omega
set_option maxRecDepth 20000 in
set_option maxHeartbeats 8000000 in
theorem walk_PtyRubs (w : World) (s o : ByteArray) (hs : s.size ≤ 140737488355328) (ho : o.size ≤ 140737488355328) : Calls Try.prog 6 #[.string s, .string o] w fun e w' => e = .returned (.bool true) ∧ Below w.heap.size w w' := by
  have hws : IntKind.i64.wrap ((s.size : Int) + (o.size : Int)) = (s.size : Int) + (o.size : Int) := by simp [IntKind.wrap, IntKind.bits, IntKind.signed]; omega
  by_cases h1 : 80 < s.size + o.size
  · have h1i : (80 : Int) < (s.size : Int) + (o.size : Int) := by omega
    go_enter Try.func6, Try.ntmps6
    go_wp2_with (go_at_call 7; refine (speaks_any _).mono ?_; rintro e w1 ⟨rfl, g1⟩; have G1 := Lib.hid g1; clear g1)
    go_ret
    exact ⟨rfl, below_of_none G1.out⟩
  have h1i : ¬ (80 : Int) < (s.size : Int) + (o.size : Int) := by omega
  have h2i : ¬ (80 : Int) < (s.size : Int) := by omega
  have LB := Lib.hid (show s.size + o.size ≤ 80 by omega)
  have LS := Lib.hid (show s.size ≤ 80 by omega)
  have LO := Lib.hid (show o.size ≤ 80 by omega)
  clear h1 hs ho
  have hi0 := idx0 s o
  have hi1 := idx1 s o
  go_enter Try.func6, Try.ntmps6
  go_wp2_with (go_at_call 7; refine (speaks_any _).mono ?_; rintro e w1 ⟨rfl, g1⟩; have G1 := Lib.hid g1; clear g1)
  go_loopw [29] (fun s29 wr => ∃ k : Nat, s29 = .int .i64 k ∧ k ≤ 2 ∧ (1 ≤ k → s.data.toList.all plainB = true) ∧ (2 ≤ k → o.data.toList.all plainB = true) ∧ w.grownBy wr none) (fun s29 _ => 2 - (intOf s29).toNat)
  case atStart => exact ⟨0, rfl, Nat.zero_le _, by simp, by simp, G1.out⟩
  case round =>
    obtain ⟨k, rfl, hk, ha1, ha2, hg⟩ := hrel
    have GR := Lib.hid hg
    have A1 := Lib.hid ha1
    have A2 := Lib.hid ha2
    clear hg ha1 ha2
    obtain rfl | rfl | rfl : k = 0 ∨ k = 1 ∨ k = 2 := by omega
    · rw [show ((0 : Nat) : Int) = 0 from rfl]
      go_wp2
      obtain ⟨wo, hwo⟩ : ∃ wo, wo = wr := ⟨_, rfl⟩
      subst hwo
      go_loopw [7] (fun s7 wr => ∃ i : Nat, s7 = .int .i64 i ∧ i ≤ s.size ∧ (s.data.toList.take i).all plainB = true ∧ wr = wo) (fun s7 _ => s.size - (intOf s7).toNat)
      case atStart => exact ⟨0, rfl, Nat.zero_le _, by simp, rfl⟩
      case round =>
        obtain ⟨i, rfl, hi, ha, rfl⟩ := hrel
        by_cases his : i < s.size
        · have hii : (i : Int) < (s.size : Int) := by omega
          have hiw : IntKind.i64.wrap ((i : Int) + 1) = ((i + 1 : Nat) : Int) := by have := LS.out; simp [IntKind.wrap, IntKind.bits, IntKind.signed]; omega
          have hil : i < s.data.toList.length := his
          have hx := all_take s.data.toList plainB i hil
          have hgg : s[i]'his = s.data.toList[i] := by simp [ByteArray.getElem_eq_getElem_data]
          obtain ⟨c, hc⟩ : ∃ c, c = s.data.toList[i] := ⟨_, rfl⟩
          rw [← hc] at hx hgg
          have HX := Lib.hid (show plainB c = true → (s.data.toList.take (i + 1)).all plainB = true by intro hp; rw [hx, ha, hp]; rfl)
          clear ha hx hc hil
          by_cases hlo : c.toNat < 32
          · have hl1 : (c.toNat : Int) < 32 := by omega
            clear HX
            go_wp2
            go_ret
            exact ⟨rfl, below_of_none GR.out⟩
          have hl1 : ¬ (c.toNat : Int) < 32 := by omega
          by_cases hhi : 126 < c.toNat
          · have hl2 : (126 : Int) < (c.toNat : Int) := by omega
            clear HX
            go_wp2
            go_ret
            exact ⟨rfl, below_of_none GR.out⟩
          have hl2 : ¬ (126 : Int) < (c.toNat : Int) := by omega
          have HP := Lib.hid (show plainB c = true by simp [plainB]; omega)
          clear hlo hhi
          go_wp2
          go_roundw
          case rel => exact ⟨i + 1, by first | rfl | go_num, by omega, HX.out HP.out, by trivial⟩
          case measure => simp [intOf]; omega
        · have hii : ¬ (i : Int) < (s.size : Int) := by omega
          have PX := Lib.hid (show s.data.toList.all plainB = true by rw [List.take_of_length_le (show s.data.toList.length ≤ i by show s.size ≤ i; omega)] at ha; exact ha)
          clear ha his hi
          go_wp2
          go_roundw
          case rel => exact ⟨1, by first | rfl | go_num, by omega, fun _ => PX.out, fun h => by omega, GR.out⟩
          case measure => simp [intOf]
    · rw [show ((1 : Nat) : Int) = 1 from rfl]
      go_wp2
      obtain ⟨wo, hwo⟩ : ∃ wo, wo = wr := ⟨_, rfl⟩
      subst hwo
      go_loopw [7] (fun s7 wr => ∃ i : Nat, s7 = .int .i64 i ∧ i ≤ o.size ∧ (o.data.toList.take i).all plainB = true ∧ wr = wo) (fun s7 _ => o.size - (intOf s7).toNat)
      case atStart => exact ⟨0, rfl, Nat.zero_le _, by simp, rfl⟩
      case round =>
        obtain ⟨i, rfl, hi, ha, rfl⟩ := hrel
        by_cases his : i < o.size
        · have hii : (i : Int) < (o.size : Int) := by omega
          have hiw : IntKind.i64.wrap ((i : Int) + 1) = ((i + 1 : Nat) : Int) := by have := LO.out; simp [IntKind.wrap, IntKind.bits, IntKind.signed]; omega
          have hil : i < o.data.toList.length := his
          have hx := all_take o.data.toList plainB i hil
          have hgg : o[i]'his = o.data.toList[i] := by simp [ByteArray.getElem_eq_getElem_data]
          obtain ⟨c, hc⟩ : ∃ c, c = o.data.toList[i] := ⟨_, rfl⟩
          rw [← hc] at hx hgg
          have HX := Lib.hid (show plainB c = true → (o.data.toList.take (i + 1)).all plainB = true by intro hp; rw [hx, ha, hp]; rfl)
          clear ha hx hc hil
          by_cases hlo : c.toNat < 32
          · have hl1 : (c.toNat : Int) < 32 := by omega
            clear HX
            go_wp2
            go_ret
            exact ⟨rfl, below_of_none GR.out⟩
          have hl1 : ¬ (c.toNat : Int) < 32 := by omega
          by_cases hhi : 126 < c.toNat
          · have hl2 : (126 : Int) < (c.toNat : Int) := by omega
            clear HX
            go_wp2
            go_ret
            exact ⟨rfl, below_of_none GR.out⟩
          have hl2 : ¬ (126 : Int) < (c.toNat : Int) := by omega
          have HP := Lib.hid (show plainB c = true by simp [plainB]; omega)
          clear hlo hhi
          go_wp2
          go_roundw
          case rel => exact ⟨i + 1, by first | rfl | go_num, by omega, HX.out HP.out, by trivial⟩
          case measure => simp [intOf]; omega
        · have hii : ¬ (i : Int) < (o.size : Int) := by omega
          have PX := Lib.hid (show o.data.toList.all plainB = true by rw [List.take_of_length_le (show o.data.toList.length ≤ i by show o.size ≤ i; omega)] at ha; exact ha)
          clear ha his hi
          go_wp2
          go_roundw
          case rel => exact ⟨2, by first | rfl | go_num, by omega, fun _ => A1.out (by omega), fun _ => PX.out, GR.out⟩
          case measure => simp [intOf]
    · rw [show ((2 : Nat) : Int) = 2 from rfl]
      have PS := Lib.hid (A1.out (by omega))
      have PO := Lib.hid (A2.out (by omega))
      have TK0 := Lib.hid True.intro
      clear A1 A2 hk
      go_wp2_with (first
        | (have hx := TK0; go_at_call 9; refine (new_any _).mono ?_; rintro e w2 ⟨rfl, p2, g2⟩; have P2 := Lib.hid p2; have G2 := Lib.hid (grown_trans' GR.out g2); have B2 := Lib.hid (show w.heap.size ≤ wr.heap.size from GR.out.size); have S2 := Lib.hid (show wr.heap.size ≤ w2.heap.size from g2.size); clear p2 g2 hx TK0; have TK2 := Lib.hid True.intro)
        | (have hx := TK2; refine wpList_convG byteT strTy rfl (.tmp 53) rfl s (by have := LS.out; omega) (by first | rfl | go_simp) ?_; intro v3 w3 o3 g3 b3; obtain ⟨A3, c3, rfl, r3, d3⟩ := o3.shape; have R3 := Lib.hid r3; have P3 := Lib.hid (P2.out.made g3); have G3 := Lib.hid (grown_trans' G2.out g3); have S3 := Lib.hid (Nat.le_trans S2.out g3.size); have AP3 := Lib.hid (P2.out.apart (A := A3) (n := s.data.toList.length) (c := c3) (fun g hg => (d3 g hg).1) s.data.toList); clear o3 g3 b3 r3 d3 hx TK2; have TK3 := Lib.hid True.intro)
        | (have hx := TK3; go_at_call 10; refine (feed_own G3.out P3.out B2.out S3.out _ s.data.toList _ c3 rfl R3.out AP3.out (by have : s.data.toList.length = s.size := rfl; have := LS.out; omega) (by simp) (by simp)).mono ?_; rintro e w4 ⟨v4, A4, c4, A4', c4', rfl, p4, -, -, g4⟩; have P4 := Lib.hid p4; have G4 := Lib.hid g4; have S4 := Lib.hid (show wr.heap.size ≤ w4.heap.size from Nat.le_of_lt (Nat.lt_of_le_of_lt p4.lt.1 p4.lt.2)); clear p4 g4 hx TK3; have TK4 := Lib.hid True.intro)
        | (have hx := TK4; refine wpList_convG byteT strTy rfl (.tmp 57) rfl o (by have := LO.out; omega) (by first | rfl | go_simp) ?_; intro v5 w5 o5 g5 b5; obtain ⟨A5, c5, rfl, r5, d5⟩ := o5.shape; have R5 := Lib.hid r5; have P5 := Lib.hid (P4.out.made g5); have G5 := Lib.hid (grown_trans' G4.out g5); have S5 := Lib.hid (Nat.le_trans S4.out g5.size); have AP5 := Lib.hid (P4.out.apart (A := A5) (n := o.data.toList.length) (c := c5) (fun g hg => (d5 g hg).1) o.data.toList); clear o5 g5 b5 r5 d5 hx TK4; have TK5 := Lib.hid True.intro)
        | (have hx := TK5; go_at_call 10; refine (feed_own G5.out P5.out B2.out S5.out _ o.data.toList _ c5 rfl R5.out AP5.out (by have : o.data.toList.length = o.size := rfl; have := LO.out; omega) (fdF_line (by simp) _) (by have := fdF_stops ⟨[], 0, false⟩ s.data.toList; have e : s.data.toList.length = s.size := rfl; have := LS.out; have e2 : (Tm.mk [] 0 false).stops = 0 := rfl; omega)).mono ?_; rintro e w6 ⟨v6, A6, c6, A6', c6', rfl, p6, -, -, g6⟩; have P6 := Lib.hid p6; have G6 := Lib.hid g6; have S6 := Lib.hid (show wr.heap.size ≤ w6.heap.size from Nat.le_of_lt (Nat.lt_of_le_of_lt p6.lt.1 p6.lt.2)); clear p6 g6 hx TK5; have TK6 := Lib.hid True.intro))
      clear TK6
      go_loopw [9, 10] (fun s9 s10 wq => ∃ i : Nat, s10 = .int .i64 i ∧ i ≤ o.size ∧ OwnB wq w6.heap.size 5 s9 (rubL i) ∧ w6.grownBy wq none) (fun _ s10 _ => o.size - (intOf s10).toNat)
      case atStart => exact ⟨0, rfl, Nat.zero_le _, OwnB.new0 _ _ _ (Nat.le_refl _), grown_alloc _ _ _⟩
      case round =>
        obtain ⟨i, rfl, hi, hr, hg⟩ := hrel
        have RR := Lib.hid hr
        have GG := Lib.hid hg
        obtain ⟨A9, c9, rfl, r9, -⟩ := hr.shape
        rw [rubL_length] at *
        clear hr hg
        by_cases his : i < o.size
        · have hii : (i : Int) < (o.size : Int) := by omega
          have hiw : IntKind.i64.wrap ((i : Int) + 1) = ((i + 1 : Nat) : Int) := by have := LO.out; simp [IntKind.wrap, IntKind.bits, IntKind.signed]; omega
          have hb := and_one i (by have := LO.out; omega)
          rcases (show i % 2 = 0 ∨ i % 2 = 1 by omega) with hm | hm
          · have HMM := Lib.hid hm
            rw [hm, show ((0 : Nat) : Int) = 0 from rfl] at hb
            clear hm r9
            go_wp2_with (at_builtin; refine wpList_appB byteT rfl (.tmp 67) (.tmp 73) rfl (RR.out.alloc _) (rb1 _ _ 8 8 rfl) (by first | rfl | go_simp) rfl (by rw [rubL_length]; have := LO.out; simp; omega) (by rw [World.size_alloc]; have := GG.out.size; omega) ?_; intro v2 w7 o2 g2 _ a2; have O2 := Lib.hid o2; have G7 := Lib.hid (grown_row (grown_trans' GG.out (grown_alloc _ _ _)) g2 (fun g hg => (RR.out.lt g hg).1)); clear o2 g2 a2)
            go_roundw
            case rel => exact ⟨i + 1, by first | rfl | go_num, by omega, by rw [rubL_succ, if_pos HMM.out]; exact O2.out, G7.out⟩
            case measure => simp [intOf]; omega
          · have HMM := Lib.hid hm
            rw [hm, show ((1 : Nat) : Int) = 1 from rfl] at hb
            clear hm r9
            go_wp2_with (at_builtin; refine wpList_appB byteT rfl (.tmp 67) (.tmp 73) rfl (RR.out.alloc _) (rb1 _ _ 127 127 rfl) (by first | rfl | go_simp) rfl (by rw [rubL_length]; have := LO.out; simp; omega) (by rw [World.size_alloc]; have := GG.out.size; omega) ?_; intro v2 w7 o2 g2 _ a2; have O2 := Lib.hid o2; have G7 := Lib.hid (grown_row (grown_trans' GG.out (grown_alloc _ _ _)) g2 (fun g hg => (RR.out.lt g hg).1)); clear o2 g2 a2)
            go_roundw
            case rel => exact ⟨i + 1, by first | rfl | go_num, by omega, by rw [rubL_succ, if_neg (by have := HMM.out; omega)]; exact O2.out, G7.out⟩
            case measure => simp [intOf]; omega
        · obtain rfl : i = o.size := by omega
          have hii : ¬ (o.size : Int) < (o.size : Int) := by omega
          have hw3 : IntKind.i64.wrap (3 * (o.size : Int)) = ((3 * o.size : Nat) : Int) := by have := LO.out; simp [IntKind.wrap, IntKind.bits, IntKind.signed]; omega
          have hcs : ((3 * o.size : Nat) : Int) = 3 * (o.size : Int) := by simp
          have R9 := Lib.hid r9
          have FR := Lib.hid (show _ ∧ _ ∧ _ from fdF_rubs PS.out PO.out (show s.data.toList.length + o.data.toList.length ≤ 80 from LB.out))
          have AP9 := Lib.hid (P6.out.apart (A := A9) (n := o.size) (c := c9) (fun g hg => (RR.out.lt g hg).1) (rubL o.size))
          have ST := Lib.hid (show (fdF (fdF ⟨[], 0, false⟩ s.data.toList).1 o.data.toList).1.stops ≤ 1000 by
            have h1 := fdF_stops ⟨[], 0, false⟩ s.data.toList
            have h2 := fdF_stops (fdF ⟨[], 0, false⟩ s.data.toList).1 o.data.toList
            have e1 : s.data.toList.length = s.size := rfl
            have e2 : o.data.toList.length = o.size := rfl
            have e3 : (Tm.mk [] 0 false).stops = 0 := rfl
            have := LB.out
            omega)
          clear r9 his hi
          go_wp2_with (first
            | (go_at_call 10; refine (feed_own (grown_trans' G6.out GG.out) (P6.out.made GG.out) B2.out (by have := S6.out; have := GG.out.size; omega) _ (rubL o.size) _ c9 (rubL_length _) R9.out AP9.out (by have := LO.out; omega) (fdF_line (fdF_line (by simp) _) _) (by have := ST.out; omega)).mono ?_; rintro e w8 ⟨v8, A8, c8, A8', c8', rfl, p8, r8, r8', g8⟩; rw [show (fdF (fdF (fdF ⟨[], 0, false⟩ s.data.toList).1 o.data.toList).1 (rubL o.size)).2.1.length = 3 * o.size from FR.out.2.1, show (fdF (fdF (fdF ⟨[], 0, false⟩ s.data.toList).1 o.data.toList).1 (rubL o.size)).2.2.length = 0 from (by rw [show (fdF (fdF (fdF ⟨[], 0, false⟩ s.data.toList).1 o.data.toList).1 (rubL o.size)).2.2 = [] from FR.out.2.2]; rfl)]; have P8 := Lib.hid p8; have G8 := Lib.hid g8; clear p8 r8 r8' g8)
            | (go_at_call 13; refine (line_any P8.out).mono ?_; rintro e w9 ⟨rfl, rfl⟩; rw [show (fdF (fdF (fdF ⟨[], 0, false⟩ s.data.toList).1 o.data.toList).1 (rubL o.size)).1.line = s.data.toList from FR.out.1, sb_toList]))
          go_ret
          exact ⟨rfl, below_of_none G8.out⟩
end Go.Proofs.Ytbkaabimafipoaa
