/- The walks of the functions on numbers: Read and Num of tlv and of the document's answer. -/
import Derived.Test.YtfpcabfpnekejaaDoorProg
import Derived.Test.YtfpcabfpnekejaaDoorLib
import Derived.BigQuiet
import Derived.Deep.QuietTactic
import Derived.Outline
import Derived.BigRegion
import Derived.ChangeAlike
namespace Go.Proofs.YtfpcabfpnekejaaDoor
open Go.RowKit

def numOf (l : List UInt8) : Nat := l.foldl (fun n c => n * 256 + c.toNat) 0
theorem numOf_snoc (l : List UInt8) (c : UInt8) : numOf (l ++ [c]) = numOf l * 256 + c.toNat := by simp [numOf, List.foldl_append]
theorem numOf_take (l : List UInt8) (k : Nat) (h : k < l.length) : numOf (l.take (k + 1)) = numOf (l.take k) * 256 + l[k].toNat := by
  rw [List.take_succ_eq_append_getElem h, numOf_snoc]
theorem foldl_lt : ∀ (l : List UInt8) (n k : Nat), n < 256 ^ k → l.foldl (fun n c => n * 256 + c.toNat) n < 256 ^ (k + l.length)
  | [], _, _, h => h
  | c :: l, n, k, h => by
    have hc := c.toNat_lt
    have := foldl_lt l (n * 256 + c.toNat) (k + 1) (by rw [Nat.pow_succ]; omega)
    rw [List.length_cons, show k + (l.length + 1) = k + 1 + l.length by omega]
    exact this
theorem numOf_lt (l : List UInt8) (h : l.length ≤ 7) : numOf l < 72057594037927936 := by
  have h1 := foldl_lt l 0 0 (by simp)
  have h2 : 256 ^ (0 + l.length) ≤ 256 ^ 7 := Nat.pow_le_pow_right (by omega) (by omega)
  exact Nat.lt_of_lt_of_le h1 h2

def readOf (l : List UInt8) : Nat × Bool := if l.length ≤ 8 ∧ l.head? ≠ some 0 then (numOf l, true) else (0, false)

end Go.Proofs.YtfpcabfpnekejaaDoor
namespace Go.Proofs.YtfpcabfpnekejaaDoor
open Go.RowKit

theorem byteT : ByteT Tryd.prog 31 5 := ⟨Tryd.underlying31, Tryd.underlying5, by kernel_rfl⟩

/-- The bytes of a number, the least first, at most f of them. -/
def leB : Nat → Nat → List UInt8
  | 0, _ => []
  | f + 1, n => if n = 0 then [] else UInt8.ofNat n :: leB f (n / 256)
def numB (n : Nat) : List UInt8 := (leB 8 n).reverse
theorem leB_length : ∀ f n, (leB f n).length ≤ f
  | 0, _ => by simp [leB]
  | f + 1, n => by
    unfold leB
    split
    · simp
    · have := leB_length f (n / 256); simp; omega

theorem bcells_set (l : List UInt8) (k : Nat) (u : UInt8) (x : Int) (hx : x = (u.toNat : Int)) : (bcells l).set k (.int .u8 x) = bcells (l.set k u) := by
  subst hx
  simp [bcells, List.map_set]

/-- What has been turned round after i steps: the two ends. -/
def Turned (l m : List UInt8) (i : Nat) : Prop := m.length = l.length ∧ ∀ k, k < l.length → m[k]? = if k < i ∨ l.length - 1 - i < k then l[l.length - 1 - k]? else l[k]?

theorem Turned.done {l m : List UInt8} {i : Nat} (h : Turned l m i) (hi : l.length ≤ 2 * i + 1) : m = l.reverse := by
  apply List.ext_getElem?
  intro k
  by_cases hk : k < l.length
  · rw [h.2 k hk, List.getElem?_reverse hk]
    split
    · rfl
    · have : l.length - 1 - k = k := by omega
      rw [this]
  · rw [List.getElem?_eq_none (by rw [h.1]; omega), List.getElem?_eq_none (by simp; omega)]

theorem Turned.step {l m : List UInt8} {i : Nat} (h : Turned l m i) (hi : 2 * i + 1 < l.length) (a b : UInt8) (ha : m[l.length - 1 - i]? = some a) (hb : m[i]? = some b) :
    Turned l ((m.set i a).set (l.length - 1 - i) b) (i + 1) := by
  refine ⟨by simp [h.1], fun k hk => ?_⟩
  have h1 := h.2 (l.length - 1 - i) (by omega)
  have h2 := h.2 i (by omega)
  rw [ha, if_neg (by omega)] at h1
  rw [hb, if_neg (by omega)] at h2
  have hm := h.1
  by_cases e1 : k = l.length - 1 - i
  · subst e1
    rw [List.getElem?_set_self (by simp; omega), if_pos (by omega), h2]
    congr 1; omega
  · rw [List.getElem?_set_ne (by omega)]
    by_cases e2 : k = i
    · subst e2
      rw [List.getElem?_set_self (by omega), if_pos (by omega), h1]
    · rw [List.getElem?_set_ne (by omega), h.2 k hk]
      by_cases e3 : k < i ∨ l.length - 1 - i < k
      · rw [if_pos e3, if_pos (by omega)]
      · rw [if_neg e3, if_neg (by omega)]

set_option maxHeartbeats 400000 in
theorem rev_any (v : Value) (l : List UInt8) (base : Nat) (w : World) (h : OwnB w base 5 v l) :
    Calls Tryd.prog 53 #[v] w fun e w' => e = .returned (.tuple #[]) ∧ OwnB w' base 5 v l.reverse ∧ w.grownBy w' v.ownBlock := by
  rcases h.2 with ⟨rfl, hl⟩ | ⟨g, cap, cur, rfl, hb, hg, hc, hm, _⟩
  · have hn : l = [] := List.eq_nil_of_length_eq_zero hl
    subst hn
    clear h hl
    go_enter Tryd.func53, Tryd.ntmps53
    go_wp2
    refine wp_loop_rounds 1 ?_
    rw [rounds_succ]
    go_wp2
    go_end0
    exact ⟨rfl, OwnB.nil_ _ _ _, World.grownBy.refl w _⟩
  · unfold maxLen at hm
    have hlm : l.length ≤ 9223372036854775807 := by omega
    have H := Lib.hid h
    clear h hg
    go_enter Tryd.func53, Tryd.ntmps53
    go_wp2
    go_loopw [2, 3] (fun x y wr => ∃ (i : Nat) (m : List UInt8), x = .int .i64 i ∧ y = .int .i64 ((l.length : Int) - 1 - i) ∧ i ≤ l.length ∧ OwnB wr base 5 (.slice (some ⟨g, 0, none⟩) l.length cap) m ∧ w.grownBy wr (some g) ∧ Turned l m i) (fun x _ _ => l.length - (intOf x).toNat)
    case atStart => exact ⟨0, l, rfl, by simp, Nat.zero_le _, H.out, World.grownBy.refl w _, rfl, fun k hk => by rw [if_neg (by omega)]⟩
    case round =>
      obtain ⟨i, m, rfl, rfl, hi, hown, hgr, ht⟩ := hrel
      by_cases hlt : 2 * i + 1 < l.length
      · have hml := ht.1
        obtain ⟨x, ha⟩ : ∃ x, m[l.length - 1 - i]? = some x := ⟨_, List.getElem?_eq_getElem (by omega)⟩
        obtain ⟨y, hb'⟩ : ∃ y, m[i]? = some y := ⟨_, List.getElem?_eq_getElem (by omega)⟩
        have hst := ht.step hlt _ _ ha hb'
        obtain ⟨J, hJ, hJ2⟩ : ∃ J : Nat, J = l.length - 1 - i ∧ (l.length : Int) - 1 - i = (J : Int) := ⟨l.length - 1 - i, rfl, by omega⟩
        rw [← hJ] at ha hst
        rw [hJ2]
        have hiJ : i < J := by omega
        have hJl : J < l.length := by omega
        have hrow : wr.ownsRow base 5 1 (.slice (some ⟨g, 0, none⟩) l.length cap) l.length (bcells m) := by have hh := hown; unfold OwnB at hh; rwa [hml] at hh
        have c1 : wr.cell? ⟨g, J, none⟩ = some (.int .u8 (x.toNat : Int)) := by
          rw [hrow.cellAt J (by omega), bcells_at, ha]; rfl
        have c2 : wr.cell? ⟨g, i, none⟩ = some (.int .u8 (y.toNat : Int)) := by
          rw [hrow.cellAt i (by omega), bcells_at, hb']; rfl
        have f1 := hrow.frozenAt J
        have f2 := hrow.frozenAt i
        have HS : Hid (OwnB ((wr.setCell ⟨g, i, none⟩ (.int .u8 (x.toNat : Int))).setCell ⟨g, J, none⟩ (.int .u8 (y.toNat : Int))) base 5 (.slice (some ⟨g, 0, none⟩) l.length cap) ((m.set i x).set J y) ∧ wr.grownBy ((wr.setCell ⟨g, i, none⟩ (.int .u8 (x.toNat : Int))).setCell ⟨g, J, none⟩ (.int .u8 (y.toNat : Int))) (some g)) := by
          obtain ⟨a1, a2⟩ := hrow.stored i (.int .u8 (x.toNat : Int))
          obtain ⟨b1, b2⟩ := a1.stored J (.int .u8 (y.toNat : Int))
          refine ⟨?_, a2.trans b2⟩
          unfold OwnB
          rw [bcells_set _ _ _ _ rfl, bcells_set _ _ _ _ rfl] at b1
          rw [List.length_set, List.length_set, hml]
          exact b1
        have HT := Lib.hid hst
        have HJ := Lib.hid hJ2
        obtain ⟨v', hy'⟩ := cell?_setCell_some (w := wr.drew) (p := ⟨g, i, none⟩) (x := .int .u8 (x.toNat : Int)) (q := ⟨g, J, none⟩) (v := .int .u8 (x.toNat : Int)) (by exact c1)
        clear hst ha hb' hown hrow ht H hJ hJ2 hml
        go_wp2_with fail
        go_region
        all_goals go_wp2
        all_goals go_roundw
        case rel => exact ⟨i + 1, _, by go_num, by have := HJ.out; go_num, by omega, HS.out.1, hgr.trans ⟨HS.out.2.os, HS.out.2.tape, HS.out.2.output, HS.out.2.size, HS.out.2.block⟩, HT.out⟩
        case measure => simp [intOf]; omega
      · have hd := Lib.hid (ht.done (by omega))
        have HO := Lib.hid hown
        have hlt' : ¬ (i : Int) < (l.length : Int) - 1 - i := by omega
        clear hown ht
        go_wp2
        go_end0
        refine ⟨rfl, ?_, hgr⟩
        rw [← hd.out]
        exact HO.out

set_option maxHeartbeats 400000 in
theorem num_any (n : Nat) (w : World) (hn : n < 18446744073709551616) :
    Calls Tryd.prog 43 #[.int .u64 n] w fun e w' => ∃ v, e = .returned v ∧ OwnB w' w.heap.size 5 v (numB n) ∧ Below w.heap.size w w' := by
  go_enter Tryd.func43, Tryd.ntmps43
  go_wp2
  go_loopw [0, 3] (fun x v wr => ∃ (f m : Nat) (bs : List UInt8), x = .int .u64 m ∧ OwnB wr w.heap.size 5 v bs ∧ Below w.heap.size w wr ∧ leB 8 n = bs ++ leB f m ∧ f + bs.length = 8 ∧ m < 256 ^ f) (fun x _ _ => (intOf x).toNat)
  case atStart => exact ⟨8, n, [], rfl, OwnB.nil_ _ _ _, Below.refl _ _, rfl, rfl, hn⟩
  case round =>
    obtain ⟨f, m, bs, rfl, hown, hbel, hle, hf, hm⟩ := hrel
    by_cases h0 : m = 0
    · subst h0
      have hl : leB f 0 = [] := by cases f <;> rfl
      rw [hl, List.append_nil] at hle
      have HL := Lib.hid hle
      have HO := Lib.hid hown
      have hb8 : bs.length ≤ 8 := by omega
      clear hle hf hm hown hl
      go_wp2_with (go_at_call 53; refine (rev_any _ _ _ _ HO.out).mono ?_; rintro e w1 ⟨rfl, hown1, hg1⟩)
      go_ret
      refine ⟨_, rfl, ?_, hbel.grown hg1 hbel.size (fun k hk => (HO.out.lt k hk).1)⟩
      rw [numB, HL.out]
      exact hown1
    · obtain ⟨g, rfl⟩ : ∃ g, f = g + 1 := ⟨f - 1, by rcases f with _ | f; · simp at hm; omega
                                                     · omega⟩
      have HL : Hid (leB 8 n = (bs ++ [UInt8.ofNat m]) ++ leB g (m / 256)) := by
        unfold Hid
        rw [hle]
        simp [leB, h0]
      have HF := Lib.hid hf
      have HM := Lib.hid hm
      have HO := Lib.hid hown
      have hb8 : bs.length ≤ 8 := by omega
      have hnews := RB.new1 wr 5 (UInt8.ofNat m) ((m : Int) % 256) (by simp) (wr.heap.size + 1) (by omega)
      have hbs := hbel.size
      clear hle hf hm hown
      go_wp2_with (at_builtin; refine wpList_appB byteT rfl (.tmp 8) (.tmp 11) rfl (HO.out.alloc _) hnews rfl rfl (by simp; omega) (by simp; omega) ?_; intro v' w' hown' hg' _ hat')
      go_roundw
      case rel =>
        refine ⟨g, m / 256, _, by go_num, hown', (hbel.alloc hbs _).grown hg' (by simp; omega) (fun k hk => (HO.out.lt k hk).1), HL.out, by have := HF.out; simp; omega, ?_⟩
        have := HM.out
        rw [Nat.pow_succ] at this
        omega
      case measure => simp [intOf]; omega

end Go.Proofs.YtfpcabfpnekejaaDoor
