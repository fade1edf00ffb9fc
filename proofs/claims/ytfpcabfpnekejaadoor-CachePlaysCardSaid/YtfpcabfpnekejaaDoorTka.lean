/- The walk of Values of tlv. -/
import Derived.Test.YtfpcabfpnekejaaDoorValL
import Derived.Deep.QuietTactic
import Derived.BigQuiet
import Derived.Test.YtfpcabfpnekejaaDoorWr
import Derived.Test.YtfpcabfpnekejaaDoorInv
namespace Go.Proofs.YtfpcabfpnekejaaDoor
open Go.RowKit

theorem textsInfo : (Tryd.prog.info? 31).map (fun i => (i.zero, i.size, i.bytes)) = some (some (.slice none 0 0), 1, 24) := by kernel_rfl
theorem run_makeTexts (n : Nat) (hn : n ≤ 1000000) (w : World) :
    (Instr.makeSlice 94 (.int .i64 (n : Int)) (.int .i64 (n : Int))).run Tryd.prog w = .ok (.slice (some ⟨w.heap.size, 0, none⟩) n n) (w.alloc (.cells (madeCells #[.slice none 0 0] n) 31)) := by
  obtain ⟨i0, hi, hz0, hz1, hz2⟩ := info_parts textsInfo
  have h := run_make (P := Tryd.prog) w 94 31 i0 _ Tryd.underlying94 hi hz0 .i64 .i64 n n (by omega) (Int.le_refl _) (by rw [hz2]; omega) (by omega)
  rw [hz1, Int.toNat_natCast, Nat.mul_one] at h
  exact h

theorem IsS.below {w w' : World} {v : Value} {ls : List (List UInt8)} (h : IsS w v ls) (hb : Below w.heap.size w w') : IsS w' v ls := by
  obtain ⟨V, c, rfl, hr⟩ := h
  exact ⟨V, c, rfl, (hr.below hb).more hb.size⟩

/-- The rounds of Values: the first k values are laid. -/
def ValRel (w1 : World) (F : Option Addr) (fs : List Fd) (fc : Nat) (ts : List Int) (vs : List Value) (k : Nat) (cs : Array Value) (wr : World) : Prop :=
  wr.heap[w1.heap.size + 1]? = some (.cells cs 31 (0, 0)) ∧ cs.size = fs.length ∧ (∀ (j : Nat) (u : Value), j < k → vs[j]? = some u → cs[j]? = some u) ∧
    ((w1.alloc (.cells #[.slice F fs.length fc] 95)).alloc (.cells (madeCells #[.slice none 0 0] fs.length) 31)).grownBy wr (some (w1.heap.size + 1)) ∧
    ∀ (j : Nat) (f : Fd) (t : Int), j < k → fs[j]? = some f → ts[j]? = some t → f.1 = t
theorem ValRel.start (w1 : World) (F : Option Addr) (fs : List Fd) (fc : Nat) (ts : List Int) (vs : List Value) :
    ValRel w1 F fs fc ts vs 0 (madeCells #[.slice none 0 0] fs.length) ((w1.alloc (.cells #[.slice F fs.length fc] 95)).alloc (.cells (madeCells #[.slice none 0 0] fs.length) 31)) :=
  ⟨heap_alloc2_new _ _ _, size_madeCells _ _, fun j u hj => by omega, World.grownBy.refl _ _, fun j f t hj => by omega⟩
section
variable {w1 wr : World} {F : Option Addr} {fs : List Fd} {fc : Nat} {ts : List Int} {vs : List Value} {k : Nat} {cs : Array Value}
theorem ValRel.low (h : ValRel w1 F fs fc ts vs k cs wr) : Below (w1.heap.size + 1) ((w1.alloc (.cells #[.slice F fs.length fc] 95)).alloc (.cells (madeCells #[.slice none 0 0] fs.length) 31)) wr :=
  ⟨h.2.2.2.1.os, h.2.2.2.1.tape, h.2.2.2.1.output, h.2.2.2.1.size, fun i hi => h.2.2.2.1.block i (by simp; omega) (fun e => by injection e; omega)⟩
theorem ValRel.below (h : ValRel w1 F fs fc ts vs k cs wr) : Below w1.heap.size w1 wr :=
  (((Below.refl _ _).alloc (Nat.le_refl _) _).alloc (by simp) _).trans (h.low.mono (Nat.le_succ _))
theorem ValRel.box (h : ValRel w1 F fs fc ts vs k cs wr) : wr.cell? ⟨w1.heap.size, 0, none⟩ = some (.slice F fs.length fc) := by
  rw [h.low.cell (p := ⟨w1.heap.size, 0, none⟩) (by simp), cell_of_row _ w1.heap.size 0 _ _ _ (heap_alloc2_old w1 _ _)]
  rfl
theorem ValRel.size (h : ValRel w1 F fs fc ts vs k cs wr) : w1.heap.size + 2 ≤ wr.heap.size := by
  have := h.2.2.2.1.size
  simpa using this
theorem ValRel.next {w2 : World} {u : Value} {f : Fd} {t : Int} (h : ValRel w1 F fs fc ts vs k cs wr) (hb : Below wr.heap.size wr w2) (hu : vs[k]? = some u) (hk : k < fs.length) (hf : fs[k]? = some f) (ht : ts[k]? = some t) (he : f.1 = t) :
    ValRel w1 F fs fc ts vs (k + 1) (cs.setIfInBounds k u) (w2.setCell ⟨w1.heap.size + 1, k, none⟩ u) := by
  have hs := h.size
  obtain ⟨h1, h2, h3, h4, h5⟩ := h
  have h1' := (hb.block _ (show w1.heap.size + 1 < wr.heap.size by omega)).trans h1
  refine ⟨heap_setCell_same w2 _ k cs _ u h1', by simpa using h2, fun j x hj hx => ?_, (h4.trans (grown_of_below hb _)).trans (grown_set w2 _ k u), fun j f' t' hj hf' ht' => ?_⟩
  · by_cases e : j = k
    · subst e
      rw [hu] at hx
      injection hx with hx
      subst hx
      simp [h2, hk]
    · rw [Array.getElem?_setIfInBounds_ne (by omega)]
      exact h3 j x (by omega) hx
  · by_cases e : j = k
    · subst e
      rw [hf] at hf'
      rw [ht] at ht'
      injection hf' with hf'
      injection ht' with ht'
      subst hf' ht'
      exact he
    · exact h5 j f' t' (by omega) hf' ht'
end

end Go.Proofs.YtfpcabfpnekejaaDoor
namespace Go.Proofs.YtfpcabfpnekejaaDoor
open Go.RowKit

theorem below_drewN {B : Nat} {a w : World} (h : Below B a w) (n : Nat) : Below B a (w.drewN n) := ⟨h.os, h.tape, h.output, h.size, h.block⟩

end Go.Proofs.YtfpcabfpnekejaaDoor
namespace Go.Proofs.YtfpcabfpnekejaaDoor
open Go.RowKit

/-! What is right. -/
def timeOk (n : Int) : Bool := decide (0 ≤ n) && decide (n ≤ 1099511627776)
def spanOk (s e : Int) : Bool := timeOk s && (timeOk e && decide (s ≤ e))
def flagsOk (n : Int) : Bool := decide (0 ≤ n) && decide (n ≤ 3)
def far (a b : Int) : Bool := decide (b < a) && decide (10 < a - b)
def validOf (s e now : Int) : Int := if far s now = true then 64 else if far now e = true then 63 else 0
/-- The key that bytes begin with. -/
def keyB (l : List UInt8) : List UInt8 := l.take 16 ++ zeros (16 - l.length)
theorem keyB_length (l : List UInt8) : (keyB l).length = 16 := by
  rw [keyB, List.length_append, List.length_take, zeros_length]; omega
theorem keyB_self (l : List UInt8) (h : l.length = 16) : keyB l = l := by
  rw [keyB, List.take_of_length_le (by omega), h]
  simp [zeros]

def I64 (n : Int) : Prop := -9223372036854775808 ≤ n ∧ n ≤ 9223372036854775807

theorem isTime_any (n : Int) (w : World) : Calls Tryd.prog 51 #[.int .i64 n] w fun e w' => e = .returned (.bool (timeOk n)) ∧ w = w' := by
  by_cases h1 : 0 ≤ n
  · have d1 : decide (0 ≤ n) = true := decide_eq_true h1
    by_cases h2 : n ≤ 1099511627776
    · have d2 : decide (n ≤ 1099511627776) = true := decide_eq_true h2
      rw [timeOk, d1, d2]
      go_enter Tryd.func51, Tryd.ntmps51
      go_wp2
      go_ret
      exact ⟨rfl, rfl⟩
    · have d2 : decide (n ≤ 1099511627776) = false := decide_eq_false h2
      rw [timeOk, d1, d2]
      go_enter Tryd.func51, Tryd.ntmps51
      go_wp2
      go_ret
      exact ⟨rfl, rfl⟩
  · have d1 : decide (0 ≤ n) = false := decide_eq_false h1
    rw [timeOk, d1]
    go_enter Tryd.func51, Tryd.ntmps51
    go_wp2
    go_ret
    exact ⟨rfl, rfl⟩
theorem areFlags_any (n : Int) (w : World) : Calls Tryd.prog 40 #[.int .i64 n] w fun e w' => e = .returned (.bool (flagsOk n)) ∧ w = w' := by
  by_cases h1 : 0 ≤ n
  · have d1 : decide (0 ≤ n) = true := decide_eq_true h1
    by_cases h2 : n ≤ 3
    · have d2 : decide (n ≤ 3) = true := decide_eq_true h2
      rw [flagsOk, d1, d2]
      go_enter Tryd.func40, Tryd.ntmps40
      go_wp2
      go_ret
      exact ⟨rfl, rfl⟩
    · have d2 : decide (n ≤ 3) = false := decide_eq_false h2
      rw [flagsOk, d1, d2]
      go_enter Tryd.func40, Tryd.ntmps40
      go_wp2
      go_ret
      exact ⟨rfl, rfl⟩
  · have d1 : decide (0 ≤ n) = false := decide_eq_false h1
    rw [flagsOk, d1]
    go_enter Tryd.func40, Tryd.ntmps40
    go_wp2
    go_ret
    exact ⟨rfl, rfl⟩
theorem isSpan_any (s t : Int) (w : World) : Calls Tryd.prog 39 #[.int .i64 s, .int .i64 t] w fun e w' => e = .returned (.bool (spanOk s t)) ∧ w = w' := by
  unfold spanOk
  cases h1 : timeOk s with
  | false =>
    have H1 := Lib.hid h1
    clear h1
    rw [Bool.false_and]
    go_enter Tryd.func39, Tryd.ntmps39
    go_wp2_with (go_at_call 51; refine (isTime_any s _).mono ?_; rintro e w' ⟨rfl, rfl⟩; rw [H1.out])
    go_ret
    exact ⟨rfl, rfl⟩
  | true =>
    cases h2 : timeOk t with
    | false =>
      have H1 := Lib.hid h1
      have H2 := Lib.hid h2
      clear h1 h2
      rw [Bool.true_and, Bool.false_and]
      go_enter Tryd.func39, Tryd.ntmps39
      go_wp2_with (first
        | (go_at_call 51; have hx := H1; clear hx; refine (isTime_any s _).mono ?_; rintro e w' ⟨rfl, rfl⟩; rw [H1.out]; clear H1)
        | (go_at_call 51; refine (isTime_any t _).mono ?_; rintro e w' ⟨rfl, rfl⟩; rw [H2.out]))
      go_ret
      exact ⟨rfl, rfl⟩
    | true =>
      have H1 := Lib.hid h1
      have H2 := Lib.hid h2
      clear h1 h2
      rw [Bool.true_and, Bool.true_and]
      go_enter Tryd.func39, Tryd.ntmps39
      go_wp2_with (first
        | (go_at_call 51; have hx := H1; clear hx; refine (isTime_any s _).mono ?_; rintro e w' ⟨rfl, rfl⟩; rw [H1.out]; clear H1)
        | (go_at_call 51; refine (isTime_any t _).mono ?_; rintro e w' ⟨rfl, rfl⟩; rw [H2.out]))
      go_ret
      exact ⟨rfl, rfl⟩

theorem wrap_diff {a b : Int} (ha : I64 a) (hb : I64 b) (h : b < a) : IntKind.u64.wrap (IntKind.u64.wrap a - IntKind.u64.wrap b) = a - b := by
  show (a % 18446744073709551616 - b % 18446744073709551616) % 18446744073709551616 = a - b
  obtain ⟨a1, a2⟩ := ha
  obtain ⟨b1, b2⟩ := hb
  rw [← Int.sub_emod]
  exact Int.emod_eq_of_lt (by omega) (by omega)
theorem isName_any (s : ByteArray) (l : List UInt8) (hl : s.data.toList = l) (w : World) (hM : ML w) (hs : l.length ≤ 1000000) :
    Calls Tryd.prog 38 #[.string s] w fun e w' => e = .returned (.bool (parses l)) ∧ w.grownBy w' none := by
  have HL := Lib.hid hl
  have HM := Lib.hid hM
  have HS := Lib.hid hs
  cases hp : parses l with
  | true =>
    have HP := Lib.hid hp
    clear hl hM hs hp
    go_enter Tryd.func38, Tryd.ntmps38
    go_wp2_with (first
      | (go_at_call 26; refine (parse_any s l HL.out _ HM.out HS.out).mono ?_; intro e w1 h1; rw [Parsed, if_pos HP.out] at h1; obtain ⟨g, n, ls, r, rfl, -, -, -, -, -, -, hb⟩ := h1; have G1 := Lib.hid (none_of_below hb (Nat.le_refl _)); clear hb)
      | refine wpList_allocC zeroN_run rfl rfl ?_
      | (refine wpList_storeC (off := 0) (p := [.slice (some ⟨g, 0, none⟩) n n, .string r]) aggN.hi rfl (.tmp 3) (.tmp 8) rfl _ rfl (nm_one _ _ _ _) (CB.new w1 66 zeroN) rfl (Nat.le_refl _) (by first | rfl | go_simp) rfl ?_; intro w4 h4 g4; have G4 := Lib.hid (none_new (grown_trans' G1.out (grown_alloc w1 _ none)) g4 G1.out.size); clear h4 g4))
    go_ret
    exact ⟨rfl, G4.out⟩
  | false =>
    have HP := Lib.hid hp
    clear hl hM hs hp
    go_enter Tryd.func38, Tryd.ntmps38
    go_wp2_with (first
      | (go_at_call 26; refine (parse_any s l HL.out _ HM.out HS.out).mono ?_; intro e w1 h1; rw [Parsed, if_neg (by rw [HP.out]; simp)] at h1; obtain ⟨rfl, hb⟩ := h1; have G1 := Lib.hid (none_of_below hb (Nat.le_refl _)); clear hb)
      | refine wpList_allocC zeroN_run rfl rfl ?_
      | (refine wpList_storeC (off := 0) (p := [.slice none 0 0, .string ⟨#[]⟩]) aggN.hi rfl (.tmp 3) (.tmp 8) rfl _ rfl (nm_one _ _ _ _) (CB.new w1 66 zeroN) rfl (Nat.le_refl _) (by first | rfl | go_simp) rfl ?_; intro w4 h4 g4; have G4 := Lib.hid (none_new (grown_trans' G1.out (grown_alloc w1 _ none)) g4 G1.out.size); clear h4 g4))
    go_ret
    exact ⟨rfl, G4.out⟩

theorem zeroK (w : World) : (zeroValue 33).run Tryd.prog w = .ok (.agg (bcells (zeros 16)).toArray) w := by kernel_rfl
theorem aggK : AggT Tryd.prog 33 16 := ⟨fun w => by kernel_rfl, by kernel_rfl⟩
theorem over_key (l : List UInt8) : over (bcells (zeros 16)) 0 (bcells (l.take 16)) = bcells (keyB l) := by
  rw [over, List.take_zero, List.nil_append, keyB, bcells_append, bcells_length, Nat.zero_add, ← bcells_drop]
  congr 2
  rw [zeros, zeros, List.drop_replicate, List.length_take]
  congr 1
  omega

end Go.Proofs.YtfpcabfpnekejaaDoor
