/- The small walks of ticket: names, times, flags, keys, numbers, tags; a ticket's use at a time. -/
import Derived.Test.YtnfmbgmncdodkaaDoorAux
import Derived.Test.YtnfmbgmncdodkaaDoorRValW
import Derived.Test.YtnfmbgmncdodkaaDoorInv
namespace Go.Proofs.YtnfmbgmncdodkaaDoor
open Go.RowKit

/-! What is right. -/
def timeOk (n : Int) : Bool := decide (0 ≤ n) && decide (n ≤ 1099511627776)
def spanOk (s e : Int) : Bool := timeOk s && (timeOk e && decide (s ≤ e))
def flagsOk (n : Int) : Bool := decide (0 ≤ n) && decide (n ≤ 3)
def far (a b : Int) : Bool := decide (b < a) && decide (10 < a - b)
def validOf (s e now : Int) : Int := if far s now = true then 64 else if far now e = true then 63 else 0
/-- The key that bytes begin with. -/
def keyB (l : List UInt8) : List UInt8 := l.take 16 ++ zeros (16 - l.length)
theorem keyB_length (l : List UInt8) : (keyB l).length = 16 := by
  rw [keyB, List.length_append, List.length_take, zeros_length]; omega
theorem keyB_self (l : List UInt8) (h : l.length = 16) : keyB l = l := by
  rw [keyB, List.take_of_length_le (by omega), h]
  simp [zeros]

def I64 (n : Int) : Prop := -9223372036854775808 ≤ n ∧ n ≤ 9223372036854775807

theorem isTime_any (n : Int) (w : World) : Calls Tryd.prog 89 #[.int .i64 n] w fun e w' => e = .returned (.bool (timeOk n)) ∧ w = w' := by
  by_cases h1 : 0 ≤ n
  · have d1 : decide (0 ≤ n) = true := decide_eq_true h1
    by_cases h2 : n ≤ 1099511627776
    · have d2 : decide (n ≤ 1099511627776) = true := decide_eq_true h2
      rw [timeOk, d1, d2]
      go_enter Tryd.func89, Tryd.ntmps89
      go_wp2
      go_ret
      exact ⟨rfl, rfl⟩
    · have d2 : decide (n ≤ 1099511627776) = false := decide_eq_false h2
      rw [timeOk, d1, d2]
      go_enter Tryd.func89, Tryd.ntmps89
      go_wp2
      go_ret
      exact ⟨rfl, rfl⟩
  · have d1 : decide (0 ≤ n) = false := decide_eq_false h1
    rw [timeOk, d1]
    go_enter Tryd.func89, Tryd.ntmps89
    go_wp2
    go_ret
    exact ⟨rfl, rfl⟩
theorem areFlags_any (n : Int) (w : World) : Calls Tryd.prog 69 #[.int .i64 n] w fun e w' => e = .returned (.bool (flagsOk n)) ∧ w = w' := by
  by_cases h1 : 0 ≤ n
  · have d1 : decide (0 ≤ n) = true := decide_eq_true h1
    by_cases h2 : n ≤ 3
    · have d2 : decide (n ≤ 3) = true := decide_eq_true h2
      rw [flagsOk, d1, d2]
      go_enter Tryd.func69, Tryd.ntmps69
      go_wp2
      go_ret
      exact ⟨rfl, rfl⟩
    · have d2 : decide (n ≤ 3) = false := decide_eq_false h2
      rw [flagsOk, d1, d2]
      go_enter Tryd.func69, Tryd.ntmps69
      go_wp2
      go_ret
      exact ⟨rfl, rfl⟩
  · have d1 : decide (0 ≤ n) = false := decide_eq_false h1
    rw [flagsOk, d1]
    go_enter Tryd.func69, Tryd.ntmps69
    go_wp2
    go_ret
    exact ⟨rfl, rfl⟩
theorem isSpan_any (s t : Int) (w : World) : Calls Tryd.prog 68 #[.int .i64 s, .int .i64 t] w fun e w' => e = .returned (.bool (spanOk s t)) ∧ w = w' := by
  unfold spanOk
  cases h1 : timeOk s with
  | false =>
    have H1 := Lib.hid h1
    clear h1
    rw [Bool.false_and]
    go_enter Tryd.func68, Tryd.ntmps68
    go_wp2_with (go_at_call 89; refine (isTime_any s _).mono ?_; rintro e w' ⟨rfl, rfl⟩; rw [H1.out])
    go_ret
    exact ⟨rfl, rfl⟩
  | true =>
    cases h2 : timeOk t with
    | false =>
      have H1 := Lib.hid h1
      have H2 := Lib.hid h2
      clear h1 h2
      rw [Bool.true_and, Bool.false_and]
      go_enter Tryd.func68, Tryd.ntmps68
      go_wp2_with (first
        | (go_at_call 89; have hx := H1; clear hx; refine (isTime_any s _).mono ?_; rintro e w' ⟨rfl, rfl⟩; rw [H1.out]; clear H1)
        | (go_at_call 89; refine (isTime_any t _).mono ?_; rintro e w' ⟨rfl, rfl⟩; rw [H2.out]))
      go_ret
      exact ⟨rfl, rfl⟩
    | true =>
      have H1 := Lib.hid h1
      have H2 := Lib.hid h2
      clear h1 h2
      rw [Bool.true_and, Bool.true_and]
      go_enter Tryd.func68, Tryd.ntmps68
      go_wp2_with (first
        | (go_at_call 89; have hx := H1; clear hx; refine (isTime_any s _).mono ?_; rintro e w' ⟨rfl, rfl⟩; rw [H1.out]; clear H1)
        | (go_at_call 89; refine (isTime_any t _).mono ?_; rintro e w' ⟨rfl, rfl⟩; rw [H2.out]))
      go_ret
      exact ⟨rfl, rfl⟩

theorem wrap_diff {a b : Int} (ha : I64 a) (hb : I64 b) (h : b < a) : IntKind.u64.wrap (IntKind.u64.wrap a - IntKind.u64.wrap b) = a - b := by
  show (a % 18446744073709551616 - b % 18446744073709551616) % 18446744073709551616 = a - b
  obtain ⟨a1, a2⟩ := ha
  obtain ⟨b1, b2⟩ := hb
  rw [← Int.sub_emod]
  exact Int.emod_eq_of_lt (by omega) (by omega)
theorem isName_any (s : ByteArray) (l : List UInt8) (hl : s.data.toList = l) (w : World) (hM : ML w) (hs : l.length ≤ 1000000) :
    Calls Tryd.prog 67 #[.string s] w fun e w' => e = .returned (.bool (parses l)) ∧ w.grownBy w' none := by
  have HL := Lib.hid hl
  have HM := Lib.hid hM
  have HS := Lib.hid hs
  cases hp : parses l with
  | true =>
    have HP := Lib.hid hp
    clear hl hM hs hp
    go_enter Tryd.func67, Tryd.ntmps67
    go_wp2_with (first
      | (go_at_call 50; refine (parse_any s l HL.out _ HM.out HS.out).mono ?_; intro e w1 h1; rw [Parsed, if_pos HP.out] at h1; obtain ⟨g, n, ls, r, rfl, -, -, -, -, -, -, hb⟩ := h1; have G1 := Lib.hid (none_of_below hb (Nat.le_refl _)); clear hb)
      | refine wpList_allocC zeroN_run rfl rfl ?_
      | (refine wpList_storeC (off := 0) (p := [.slice (some ⟨g, 0, none⟩) n n, .string r]) aggN.hi rfl (.tmp 3) (.tmp 8) rfl _ rfl (nm_one _ _ _ _) (CB.new w1 105 zeroN) rfl (Nat.le_refl _) (by first | rfl | go_simp) rfl ?_; intro w4 h4 g4; have G4 := Lib.hid (none_new (grown_trans' G1.out (grown_alloc w1 _ none)) g4 G1.out.size); clear h4 g4))
    go_ret
    exact ⟨rfl, G4.out⟩
  | false =>
    have HP := Lib.hid hp
    clear hl hM hs hp
    go_enter Tryd.func67, Tryd.ntmps67
    go_wp2_with (first
      | (go_at_call 50; refine (parse_any s l HL.out _ HM.out HS.out).mono ?_; intro e w1 h1; rw [Parsed, if_neg (by rw [HP.out]; simp)] at h1; obtain ⟨rfl, hb⟩ := h1; have G1 := Lib.hid (none_of_below hb (Nat.le_refl _)); clear hb)
      | refine wpList_allocC zeroN_run rfl rfl ?_
      | (refine wpList_storeC (off := 0) (p := [.slice none 0 0, .string ⟨#[]⟩]) aggN.hi rfl (.tmp 3) (.tmp 8) rfl _ rfl (nm_one _ _ _ _) (CB.new w1 105 zeroN) rfl (Nat.le_refl _) (by first | rfl | go_simp) rfl ?_; intro w4 h4 g4; have G4 := Lib.hid (none_new (grown_trans' G1.out (grown_alloc w1 _ none)) g4 G1.out.size); clear h4 g4))
    go_ret
    exact ⟨rfl, G4.out⟩

theorem bytesEq_any (A1 A2 : Option Addr) (l1 l2 : List UInt8) (n1 c1 n2 c2 : Nat) (w : World) (hn1 : l1.length = n1) (hn2 : l2.length = n2) (h1 : RB w w.heap.size A1 l1 c1) (h2 : RB w w.heap.size A2 l2 c2) :
    Calls Tryd.prog 23 #[.slice A1 n1 c1, .slice A2 n2 c2] w fun e w' => e = .returned (.bool (decide (l1 = l2))) ∧ w = w' := by
  subst hn1 hn2
  have s1 := run_strB byteT Tryd.underlying9 h1
  have s2 := run_strB byteT Tryd.underlying9 h2
  have he : (l1 == l2) = decide (l1 = l2) := by rw [Bool.eq_iff_iff, beq_iff_eq, decide_eq_true_iff]
  have HE := Lib.hid he
  clear h1 h2 he
  go_enter Tryd.func23, Tryd.ntmps23
  go_wp2
  go_ret
  exact ⟨ret_val (by show Value.bool (l1 == l2) = _; rw [HE.out]), rfl⟩

theorem zeroK (w : World) : (zeroValue 45).run Tryd.prog w = .ok (.agg (bcells (zeros 16)).toArray) w := by kernel_rfl
theorem aggK : AggT Tryd.prog 45 16 := ⟨fun w => by kernel_rfl, by kernel_rfl⟩
theorem over_key (l : List UInt8) : over (bcells (zeros 16)) 0 (bcells (l.take 16)) = bcells (keyB l) := by
  rw [over, List.take_zero, List.nil_append, keyB, bcells_append, bcells_length, Nat.zero_add, ← bcells_drop]
  congr 2
  rw [zeros, zeros, List.drop_replicate, List.length_take]
  congr 1
  omega

end Go.Proofs.YtnfmbgmncdodkaaDoor
