/- The walks of Values and SameTexts of the document's answer. -/
import Derived.Test.YthgejidimnbplaaGreatDoorValW
import Derived.Test.YthgejidimnbplaaGreatDoorWr3
import Derived.Test.YthgejidimnbplaaGreatDoorInv
namespace Go.Proofs.YthgejidimnbplaaGreatDoor
open Go.RowKit

theorem below_drewN {B : Nat} {a w : World} (h : Below B a w) (n : Nat) : Below B a (w.drewN n) := ⟨h.os, h.tape, h.output, h.size, h.block⟩

end Go.Proofs.YthgejidimnbplaaGreatDoor
namespace Go.Proofs.YthgejidimnbplaaGreatDoor
open Go.RowKit

/-! What is right. -/
def timeOk (n : Int) : Bool := decide (0 ≤ n) && decide (n ≤ 1099511627776)
def spanOk (s e : Int) : Bool := timeOk s && (timeOk e && decide (s ≤ e))
def flagsOk (n : Int) : Bool := decide (0 ≤ n) && decide (n ≤ 3)
def far (a b : Int) : Bool := decide (b < a) && decide (10 < a - b)
def validOf (s e now : Int) : Int := if far s now = true then 64 else if far now e = true then 63 else 0
/-- The key that bytes begin with. -/
def keyB (l : List UInt8) : List UInt8 := l.take 16 ++ zeros (16 - l.length)
theorem keyB_length (l : List UInt8) : (keyB l).length = 16 := by
  rw [keyB, List.length_append, List.length_take, zeros_length]; omega
theorem keyB_self (l : List UInt8) (h : l.length = 16) : keyB l = l := by
  rw [keyB, List.take_of_length_le (by omega), h]
  simp [zeros]

def I64 (n : Int) : Prop := -9223372036854775808 ≤ n ∧ n ≤ 9223372036854775807

theorem isTime_any (n : Int) (w : World) : Calls Tryz.prog 40 #[.int .i64 n] w fun e w' => e = .returned (.bool (timeOk n)) ∧ w = w' := by
  by_cases h1 : 0 ≤ n
  · have d1 : decide (0 ≤ n) = true := decide_eq_true h1
    by_cases h2 : n ≤ 1099511627776
    · have d2 : decide (n ≤ 1099511627776) = true := decide_eq_true h2
      rw [timeOk, d1, d2]
      go_enter Tryz.func40, Tryz.ntmps40
      go_wp2
      go_ret
      exact ⟨rfl, rfl⟩
    · have d2 : decide (n ≤ 1099511627776) = false := decide_eq_false h2
      rw [timeOk, d1, d2]
      go_enter Tryz.func40, Tryz.ntmps40
      go_wp2
      go_ret
      exact ⟨rfl, rfl⟩
  · have d1 : decide (0 ≤ n) = false := decide_eq_false h1
    rw [timeOk, d1]
    go_enter Tryz.func40, Tryz.ntmps40
    go_wp2
    go_ret
    exact ⟨rfl, rfl⟩
theorem areFlags_any (n : Int) (w : World) : Calls Tryz.prog 23 #[.int .i64 n] w fun e w' => e = .returned (.bool (flagsOk n)) ∧ w = w' := by
  by_cases h1 : 0 ≤ n
  · have d1 : decide (0 ≤ n) = true := decide_eq_true h1
    by_cases h2 : n ≤ 3
    · have d2 : decide (n ≤ 3) = true := decide_eq_true h2
      rw [flagsOk, d1, d2]
      go_enter Tryz.func23, Tryz.ntmps23
      go_wp2
      go_ret
      exact ⟨rfl, rfl⟩
    · have d2 : decide (n ≤ 3) = false := decide_eq_false h2
      rw [flagsOk, d1, d2]
      go_enter Tryz.func23, Tryz.ntmps23
      go_wp2
      go_ret
      exact ⟨rfl, rfl⟩
  · have d1 : decide (0 ≤ n) = false := decide_eq_false h1
    rw [flagsOk, d1]
    go_enter Tryz.func23, Tryz.ntmps23
    go_wp2
    go_ret
    exact ⟨rfl, rfl⟩
theorem isSpan_any (s t : Int) (w : World) : Calls Tryz.prog 22 #[.int .i64 s, .int .i64 t] w fun e w' => e = .returned (.bool (spanOk s t)) ∧ w = w' := by
  unfold spanOk
  cases h1 : timeOk s with
  | false =>
    have H1 := Lib.hid h1
    clear h1
    rw [Bool.false_and]
    go_enter Tryz.func22, Tryz.ntmps22
    go_wp2_with (go_at_call 40; refine (isTime_any s _).mono ?_; rintro e w' ⟨rfl, rfl⟩; rw [H1.out])
    go_ret
    exact ⟨rfl, rfl⟩
  | true =>
    cases h2 : timeOk t with
    | false =>
      have H1 := Lib.hid h1
      have H2 := Lib.hid h2
      clear h1 h2
      rw [Bool.true_and, Bool.false_and]
      go_enter Tryz.func22, Tryz.ntmps22
      go_wp2_with (first
        | (go_at_call 40; have hx := H1; clear hx; refine (isTime_any s _).mono ?_; rintro e w' ⟨rfl, rfl⟩; rw [H1.out]; clear H1)
        | (go_at_call 40; refine (isTime_any t _).mono ?_; rintro e w' ⟨rfl, rfl⟩; rw [H2.out]))
      go_ret
      exact ⟨rfl, rfl⟩
    | true =>
      have H1 := Lib.hid h1
      have H2 := Lib.hid h2
      clear h1 h2
      rw [Bool.true_and, Bool.true_and]
      go_enter Tryz.func22, Tryz.ntmps22
      go_wp2_with (first
        | (go_at_call 40; have hx := H1; clear hx; refine (isTime_any s _).mono ?_; rintro e w' ⟨rfl, rfl⟩; rw [H1.out]; clear H1)
        | (go_at_call 40; refine (isTime_any t _).mono ?_; rintro e w' ⟨rfl, rfl⟩; rw [H2.out]))
      go_ret
      exact ⟨rfl, rfl⟩

theorem wrap_diff {a b : Int} (ha : I64 a) (hb : I64 b) (h : b < a) : IntKind.u64.wrap (IntKind.u64.wrap a - IntKind.u64.wrap b) = a - b := by
  show (a % 18446744073709551616 - b % 18446744073709551616) % 18446744073709551616 = a - b
  obtain ⟨a1, a2⟩ := ha
  obtain ⟨b1, b2⟩ := hb
  rw [← Int.sub_emod]
  exact Int.emod_eq_of_lt (by omega) (by omega)
theorem farAbove_any (a b : Int) (w : World) (ha : I64 a) (hb : I64 b) : Calls Tryz.prog 27 #[.int .i64 a, .int .i64 b] w fun e w' => e = .returned (.bool (far a b)) ∧ w = w' := by
  by_cases h1 : b < a
  · have hw := wrap_diff ha hb h1
    have d1 : decide (b < a) = true := decide_eq_true h1
    rw [far, d1, Bool.true_and]
    go_enter Tryz.func27, Tryz.ntmps27
    go_wp2
    go_ret
    exact ⟨rfl, rfl⟩
  · have d1 : decide (b < a) = false := decide_eq_false h1
    rw [far, d1, Bool.false_and]
    go_enter Tryz.func27, Tryz.ntmps27
    go_wp2
    go_ret
    exact ⟨rfl, rfl⟩

theorem isName_any (s : ByteArray) (l : List UInt8) (hl : s.data.toList = l) (w : World) (hM : ML w) (hs : l.length ≤ 1000000) :
    Calls Tryz.prog 21 #[.string s] w fun e w' => e = .returned (.bool (parses l)) ∧ w.grownBy w' none := by
  have HL := Lib.hid hl
  have HM := Lib.hid hM
  have HS := Lib.hid hs
  cases hp : parses l with
  | true =>
    have HP := Lib.hid hp
    clear hl hM hs hp
    go_enter Tryz.func21, Tryz.ntmps21
    go_wp2_with (first
      | (go_at_call 39; refine (parse_any s l HL.out _ HM.out HS.out).mono ?_; intro e w1 h1; rw [Parsed, if_pos HP.out] at h1; obtain ⟨g, n, ls, r, rfl, -, -, -, -, -, -, hb⟩ := h1; have G1 := Lib.hid (none_of_below hb (Nat.le_refl _)); clear hb)
      | refine wpList_allocC zeroN_run rfl rfl ?_
      | (refine wpList_storeC (off := 0) (p := [.slice (some ⟨g, 0, none⟩) n n, .string r]) aggN.hi rfl (.tmp 3) (.tmp 8) rfl _ rfl (nm_one _ _ _ _) (CB.new w1 61 zeroN) rfl (Nat.le_refl _) (by first | rfl | go_simp) rfl ?_; intro w4 h4 g4; have G4 := Lib.hid (none_new (grown_trans' G1.out (grown_alloc w1 _ none)) g4 G1.out.size); clear h4 g4))
    go_ret
    exact ⟨rfl, G4.out⟩
  | false =>
    have HP := Lib.hid hp
    clear hl hM hs hp
    go_enter Tryz.func21, Tryz.ntmps21
    go_wp2_with (first
      | (go_at_call 39; refine (parse_any s l HL.out _ HM.out HS.out).mono ?_; intro e w1 h1; rw [Parsed, if_neg (by rw [HP.out]; simp)] at h1; obtain ⟨rfl, hb⟩ := h1; have G1 := Lib.hid (none_of_below hb (Nat.le_refl _)); clear hb)
      | refine wpList_allocC zeroN_run rfl rfl ?_
      | (refine wpList_storeC (off := 0) (p := [.slice none 0 0, .string ⟨#[]⟩]) aggN.hi rfl (.tmp 3) (.tmp 8) rfl _ rfl (nm_one _ _ _ _) (CB.new w1 61 zeroN) rfl (Nat.le_refl _) (by first | rfl | go_simp) rfl ?_; intro w4 h4 g4; have G4 := Lib.hid (none_new (grown_trans' G1.out (grown_alloc w1 _ none)) g4 G1.out.size); clear h4 g4))
    go_ret
    exact ⟨rfl, G4.out⟩

theorem number_any (A : Option Addr) (l : List UInt8) (n cap B : Nat) (w : World) (hn : l.length = n) (h : RB w B A l cap) :
    Calls Tryz.prog 34 #[.slice A n cap] w fun e w' => e = .returned (.int .u64 (readOf l).1) ∧ w = w' := by
  subst hn
  have H := Lib.hid h
  clear h
  go_enter Tryz.func34, Tryz.ntmps34
  go_wp2_with (go_at_call 47; refine (read_any A l cap B _ H.out).mono ?_; rintro e w1 ⟨rfl, rfl⟩)
  go_ret
  exact ⟨rfl, rfl⟩

theorem bytesEq_any (A1 A2 : Option Addr) (l1 l2 : List UInt8) (n1 c1 n2 c2 : Nat) (w : World) (hn1 : l1.length = n1) (hn2 : l2.length = n2) (h1 : RB w w.heap.size A1 l1 c1) (h2 : RB w w.heap.size A2 l2 c2) :
    Calls Tryz.prog 46 #[.slice A1 n1 c1, .slice A2 n2 c2] w fun e w' => e = .returned (.bool (decide (l1 = l2))) ∧ w = w' := by
  subst hn1 hn2
  have s1 := run_strB byteT Tryz.underlying9 h1
  have s2 := run_strB byteT Tryz.underlying9 h2
  have he : (l1 == l2) = decide (l1 = l2) := by rw [Bool.eq_iff_iff, beq_iff_eq, decide_eq_true_iff]
  have HE := Lib.hid he
  clear h1 h2 he
  go_enter Tryz.func46, Tryz.ntmps46
  go_wp2
  go_ret
  exact ⟨ret_val (by show Value.bool (l1 == l2) = _; rw [HE.out]), rfl⟩

theorem zeroK (w : World) : (zeroValue 23).run Tryz.prog w = .ok (.agg (bcells (zeros 16)).toArray) w := by kernel_rfl
theorem aggK : AggT Tryz.prog 23 16 := ⟨fun w => by kernel_rfl, by kernel_rfl⟩
theorem over_key (l : List UInt8) : over (bcells (zeros 16)) 0 (bcells (l.take 16)) = bcells (keyB l) := by
  rw [over, List.take_zero, List.nil_append, keyB, bcells_append, bcells_length, Nat.zero_add, ← bcells_drop]
  congr 2
  rw [zeros, zeros, List.drop_replicate, List.length_take]
  congr 1
  omega

set_option maxRecDepth 10000 in
set_option maxHeartbeats 400000 in
theorem keyOf_any (n cap : Nat) (A : Option Addr) (l : List UInt8) (w : World) (hn : l.length = n) (h : RB w w.heap.size A l cap) :
    Calls Tryz.prog 33 #[.slice A n cap] w fun e w' => e = .returned (.agg (bcells (keyB l)).toArray) ∧ w.grownBy w' none := by
  have HN := Lib.hid hn
  have H := Lib.hid h
  obtain ⟨F, hF⟩ : ∃ F, F = keyB l := ⟨_, rfl⟩
  have HFL := Lib.hid (show F.length = 16 by rw [hF, keyB_length])
  have HOV := Lib.hid (show over (bcells (zeros 16)) 0 (bcells (l.take 16)) = bcells F by rw [hF, over_key])
  rw [← hF]
  have HR := Lib.hid ((CB.new w 23 (bcells (zeros 16))).alloc (.cells (bcells (zeros 16)).toArray 23))
  have HK := Lib.hid (CB.new1 w (.cells (bcells (zeros 16)).toArray 23) 23 (bcells (zeros 16)))
  have HG := Lib.hid (grown_trans' (grown_alloc w (.cells (bcells (zeros 16)).toArray 23) none) (grown_alloc _ (.cells (bcells (zeros 16)).toArray 23) none))
  clear h
  by_cases h0 : n = 0
  · subst h0
    have hl : l = [] := List.eq_nil_of_length_eq_zero hn
    subst hl
    have HZ := Lib.hid (show bcells (zeros 16) = bcells F by rw [hF]; rfl)
    have HK2 := Lib.hid (show CB ((w.alloc (.cells (bcells (zeros 16)).toArray 23)).alloc (.cells (bcells (zeros 16)).toArray 23)) (w.heap.size + 1) 23 (bcells F) by rw [← HZ.out]; exact HK.out)
    clear hn hF
    go_enter Tryz.func33, Tryz.ntmps33
    go_wp2_with (first
      | refine wpList_allocC zeroK rfl rfl ?_
      | refine wpList_copy_nothing rfl (.tmp 4) (.tmp 5) 30 30 rfl 5 Tryz.underlying30 sz8 (some ⟨w.heap.size + 1, 0, none⟩) A 16 16 0 cap (by first | rfl | go_simp) (by first | rfl | go_simp) rfl ?_
      | refine wpList_loadC (off := 0) (p := bcells F) aggK rfl (.tmp 3) rfl HK2.out (by rw [List.drop_zero]; exact List.take_of_length_le (by rw [bcells_length, HFL.out]; exact Nat.le_refl _)) (by rw [bcells_length, HFL.out]; omega) (by first | rfl | go_simp) ?_
      | (refine wpList_storeC (off := 0) (p := bcells F) aggK.hi rfl (.tmp 2) (.tmp 7) rfl (.agg (bcells F).toArray) rfl (bcells_one _) HR.out (by rw [bcells_length, HFL.out]) (by rw [bcells_length, zeros_length]; omega) (by first | rfl | go_simp) rfl ?_; intro w8 h8 g8; rw [over_all _ _ (by rw [bcells_length, bcells_length, HFL.out, zeros_length]; exact Nat.le_refl _)] at h8))
    exact bodyPost_ret (results_C Tryz.underlying23 aggK.hi rfl _ h8 (by rw [bcells_length, HFL.out]) rfl) rfl ⟨rfl, none_new HG.out g8 (Nat.le_refl _)⟩
  · go_enter Tryz.func33, Tryz.ntmps33
    obtain ⟨b, off, rfl, hbb, hcell⟩ := H.out.open_ (by omega)
    have HSRC := Lib.hid (show ∀ j v, (bcells (l.take 16))[j]? = some v → ((w.alloc (.cells (bcells (zeros 16)).toArray 23)).alloc (.cells (bcells (zeros 16)).toArray 23)).cell? ((⟨b, off, none⟩ : Addr).add j) = some v from fun j v hv => by
      rw [bcells_at] at hv
      obtain ⟨u, hu, rfl⟩ := Option.map_eq_some_iff.1 hv
      have hj2 : j < (l.take 16).length := (List.getElem?_eq_some_iff.1 hu).1
      have hj : j < l.length := by rw [List.length_take] at hj2; omega
      rw [List.getElem?_take_of_lt (by rw [List.length_take] at hj2; omega), List.getElem?_eq_getElem hj] at hu
      injection hu with hu
      rw [Addr.add_lit, ← hu]
      exact cell_alloc (cell_alloc (hcell j hj) _) _)
    have HMN := Lib.hid (show (bcells (l.take 16)).length = Nat.min n 16 by rw [bcells_length, List.length_take, HN.out]; exact Nat.min_comm _ _)
    have HML := Lib.hid (show (bcells (l.take 16)).length ≤ 16 by rw [bcells_length, List.length_take]; omega)
    clear hcell hn hF
    go_wp2_with (first
      | refine wpList_allocC zeroK rfl rfl ?_
      | (refine wpList_copyC (off := 0) rfl (.tmp 4) (.tmp 5) 30 30 rfl 5 Tryz.underlying30 sz8 16 16 ⟨b, off, none⟩ n cap (by first | rfl | go_simp) (by first | rfl | go_simp) HK.out (bcells (l.take 16)) HMN.out HSRC.out (by rw [bcells_length (zeros 16), zeros_length, Nat.zero_add]; exact HML.out) (bcells_one _) ?_; intro w7 h7 g7; rw [HOV.out] at h7; have H7 := Lib.hid h7; have R7 := Lib.hid (HR.out.grown g7 (by omega)); have G7 := Lib.hid (none_new HG.out g7 (by omega)); clear h7 g7)
      | refine wpList_loadC (off := 0) (p := bcells F) aggK rfl (.tmp 3) rfl H7.out (by rw [List.drop_zero]; exact List.take_of_length_le (by rw [bcells_length, HFL.out]; exact Nat.le_refl _)) (by rw [bcells_length, HFL.out]; omega) (by first | rfl | go_simp) ?_
      | (refine wpList_storeC (off := 0) (p := bcells F) aggK.hi rfl (.tmp 2) (.tmp 7) rfl (.agg (bcells F).toArray) rfl (bcells_one _) R7.out (by rw [bcells_length, HFL.out]) (by rw [bcells_length, zeros_length]; omega) (by first | rfl | go_simp) rfl ?_; intro w8 h8 g8; rw [over_all _ _ (by rw [bcells_length, bcells_length, HFL.out, zeros_length]; exact Nat.le_refl _)] at h8))
    exact bodyPost_ret (results_C Tryz.underlying23 aggK.hi rfl _ h8 (by rw [bcells_length, HFL.out]) rfl) rfl ⟨rfl, none_new G7.out g8 (Nat.le_refl _)⟩
end Go.Proofs.YthgejidimnbplaaGreatDoor
