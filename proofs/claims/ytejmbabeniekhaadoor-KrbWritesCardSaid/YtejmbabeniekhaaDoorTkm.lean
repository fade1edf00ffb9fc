/- A ticket, an authenticator, a grant by value, taken apart; the law's own 'long'; what is read of bytes that were written. -/
import Derived.Test.YtejmbabeniekhaaDoorTkq
import Derived.ProofKit
import Derived.OpenShut
import Derived.WideShapes
import Derived.Test.YtejmbabeniekhaaDoorSpk
import Derived.Test.YtejmbabeniekhaaDoorReg
namespace Go.Proofs.YtejmbabeniekhaaDoor
open Go.ChangeShapes Go.WideShapes Go.RowKit

def byteOf (v : Value) : UInt8 := match v with
  | .int _ n => UInt8.ofNat n.toNat
  | _ => 0
section
variable {H : Type} {enc : TypeId × Value → H} {P : Program} {w : World} {base : Nat} {spare : Nat → Bool} {held : Bool}
theorem arr_of_trod {t e : TypeId} {n fuel : Nat} {cs : List Value} {x : DataW H × List MemPlace}
    (ht : P.underlying t = some (.array n e)) (he : P.underlying e = some (.int .u8)) (hce : P.cellsOf e = 1) (hlen0 : cs.length = n) (h : DataW.trod enc P w base spare held fuel t cs = some x) :
    ∃ l : List UInt8, cs = bcells l ∧ l.length = n := by
  obtain ⟨xs, m, _, _, hlen, hxl, hg⟩ := DataW.trod_array ht h
  refine ⟨cs.map byteOf, ?_, by simp [hlen0]⟩
  apply List.ext_getElem
  · simp [bcells]
  · intro i h1 h2
    have hi : i < n := by omega
    have hx := hg i hi
    rw [hce, Nat.mul_one] at hx
    have hd : (cs.drop i).take 1 = [cs[i]] := by
      rw [List.drop_eq_getElem_cons h1, List.take_succ_cons, List.take_zero]
    rw [hd, List.getElem?_eq_getElem (by omega)] at hx
    obtain ⟨k, hk, _, hwf⟩ := DataW.trod_int he hx
    simp only [List.cons.injEq, and_true] at hk
    have hb := bounds_u8 hwf
    have hk2 : (bcells (cs.map byteOf))[i]'h2 = Value.int .u8 ((byteOf cs[i]).toNat : Int) := by simp [bcells]
    rw [hk2, hk]
    congr 1
    simp only [byteOf]
    rw [UInt8.toNat_ofNat']
    omega
theorem drop_step (cs : List Value) (a n : Nat) : cs.drop a = (cs.drop a).take n ++ cs.drop (a + n) := by rw [← List.drop_drop, List.take_append_drop]
end

set_option maxRecDepth 10000 in
theorem open_Grant {H : Type} {enc : TypeId × Value → H} {w : World} {base : Nat} {spare : Nat → Bool} {held : Bool} {r : Reach} {b0 : Nat} {v : Value} {d : DataW H} {p : List MemPlace} (hv : Value.okWide Tryd.prog w r b0 72 v) (h : DataW.Trod enc Tryd.prog w base spare held 72 v d p) :
    ∃ (s : ByteArray) (k : List UInt8) (no st en fl : Int), v = .agg (gcells s k no st en fl).toArray ∧ k.length = 16 ∧ (Lit.int .u64 no).wf = true ∧ (Lit.int .i64 st).wf = true ∧ (Lit.int .i64 en).wf = true ∧ (Lit.int .i64 fl).wf = true := by
  obtain ⟨ca, rfl, hsz⟩ := okWide_struct Tryd.underlying72 hv
  obtain ⟨fuel, hf0⟩ := h
  obtain ⟨xs, n, _, _, hlen, hxl, hf⟩ := DataW.trod_struct Tryd.underlying72 hf0
  simp only [Value.cells] at hf hlen
  have hC : Tryd.prog.cellsOf 72 = 21 := by kernel_rfl
  rw [hC] at hlen
  obtain ⟨cs, hcs⟩ : ∃ cs, ca.toList = cs := ⟨_, rfl⟩
  rw [hcs] at hf hlen
  have hC_gangway_api_Key : Tryd.prog.cellsOf 49 = 16 := by kernel_rfl
  have hC_int : Tryd.prog.cellsOf 3 = 1 := by kernel_rfl
  have hC_int64 : Tryd.prog.cellsOf 2 = 1 := by kernel_rfl
  have hC_string : Tryd.prog.cellsOf 9 = 1 := by kernel_rfl
  have hC_uint64 : Tryd.prog.cellsOf 22 = 1 := by kernel_rfl
  match xs, hxl with
  | [y0, y1, y2, y3, y4, y5], _ =>
    have h0 := hf 0 _ rfl
    change DataW.trod enc Tryd.prog w base spare held n 9 (List.take (Tryd.prog.cellsOf 9) (List.drop 0 cs)) = some y0 at h0
    rw [hC_string] at h0
    obtain ⟨s, e0, _, _⟩ := DataW.trod_string Tryd.underlying9 h0
    have h1 := hf 1 _ rfl
    change DataW.trod enc Tryd.prog w base spare held n 49 (List.take (Tryd.prog.cellsOf 49) (List.drop 1 cs)) = some y1 at h1
    rw [hC_gangway_api_Key] at h1
    obtain ⟨k, e1, hk⟩ := arr_of_trod Tryd.underlying49 Tryd.underlying5 (by kernel_rfl) (by rw [List.length_take, List.length_drop, hlen]; rfl) h1
    have h2 := hf 2 _ rfl
    change DataW.trod enc Tryd.prog w base spare held n 22 (List.take (Tryd.prog.cellsOf 22) (List.drop 17 cs)) = some y2 at h2
    rw [hC_uint64] at h2
    obtain ⟨no, e2, _, w2⟩ := DataW.trod_int Tryd.underlying22 h2
    have h3 := hf 3 _ rfl
    change DataW.trod enc Tryd.prog w base spare held n 2 (List.take (Tryd.prog.cellsOf 2) (List.drop 18 cs)) = some y3 at h3
    rw [hC_int64] at h3
    obtain ⟨st, e3, _, w3⟩ := DataW.trod_int Tryd.underlying2 h3
    have h4 := hf 4 _ rfl
    change DataW.trod enc Tryd.prog w base spare held n 2 (List.take (Tryd.prog.cellsOf 2) (List.drop 19 cs)) = some y4 at h4
    rw [hC_int64] at h4
    obtain ⟨en, e4, _, w4⟩ := DataW.trod_int Tryd.underlying2 h4
    have h5 := hf 5 _ rfl
    change DataW.trod enc Tryd.prog w base spare held n 3 (List.take (Tryd.prog.cellsOf 3) (List.drop 20 cs)) = some y5 at h5
    rw [hC_int] at h5
    obtain ⟨fl, e5, _, w5⟩ := DataW.trod_int Tryd.underlying3 h5
    refine ⟨s, k, no, st, en, fl, ?_, hk, w2, w3, w4, w5⟩
    have hall : cs.drop 0 = gcells s k no st en fl := by
      rw [drop_step cs 0 1, e0, show 0 + 1 = 1 from rfl]
      rw [drop_step cs 1 16, e1, show 1 + 16 = 17 from rfl]
      rw [drop_step cs 17 1, e2, show 17 + 1 = 18 from rfl]
      rw [drop_step cs 18 1, e3, show 18 + 1 = 19 from rfl]
      rw [drop_step cs 19 1, e4, show 19 + 1 = 20 from rfl]
      rw [drop_step cs 20 1, e5, show 20 + 1 = 21 from rfl]
      rw [List.drop_eq_nil_of_le (by omega)]
      simp [gcells]
    rw [List.drop_zero] at hall
    congr 1
    apply Array.ext'
    rw [hcs, hall]

/-! 'long'. -/
/-! What is read of bytes that were written. -/
theorem splitOf_bytes {fs : List Fd} (h : ∀ f ∈ fs, chk f = 0) : splitOf (bytesF fs) = (fs, 0) := by
  have h1 := joinOf_ok fs [] h
  rw [List.nil_append] at h1
  have h2 := splitOf_joinOf fs (by rw [h1])
  rwa [h1] at h2
theorem valuesOf_other {fs : List Fd} {ts : List Int} (h : ∀ f ∈ fs, chk f = 0) (hne : fs.map (·.1) ≠ ts) : (valuesOf (bytesF fs) ts).2 ≠ 0 := by
  rw [valuesOf, splitOf_bytes h, if_neg (by simp), if_neg hne]
  simp
theorem valuesOf_same {fs : List Fd} (h : ∀ f ∈ fs, chk f = 0) : valuesOf (bytesF fs) (fs.map (·.1)) = (fs.map (·.2), 0) := by
  rw [valuesOf, splitOf_bytes h, if_neg (by simp), if_pos rfl]
theorem bytesF_length (fs : List Fd) : (bytesF fs).length = tot fs := by
  induction fs with
  | nil => rfl
  | cons f fs ih =>
    rw [show bytesF (f :: fs) = fieldB f ++ bytesF fs from rfl, List.length_append, fieldB_length, ih]
    simp [tot]
theorem Wrote.weak {w w' : World} {ok : Bool} {b : List UInt8} {e : Ending} (h : Wrote w ok b e w') : ∃ (v : Value) (n : Int), e = .returned (.tuple #[v, .int .i64 n]) ∧ w.grownBy w' none := by
  obtain ⟨hg, h⟩ := h
  cases ok with
  | true => rw [if_pos rfl] at h; obtain ⟨v, rfl, _⟩ := h; exact ⟨v, 0, rfl, hg⟩
  | false => rw [if_neg (by simp)] at h; exact ⟨_, 1, h, hg⟩
theorem tFields_chk (lc ls k : List UInt8) (st en fl : Nat) (hc : lc.length ≤ 65535) (hs : ls.length ≤ 65535) (hk : k.length = 16) : ∀ f ∈ tFields lc ls k st en fl, chk f = 0 := by
  intro f hf
  have nst := numB_length st
  have nen := numB_length en
  have nfl := numB_length fl
  simp only [tFields, List.mem_cons, List.not_mem_nil, or_false] at hf
  rcases hf with rfl | rfl | rfl | rfl | rfl | rfl <;> exact chk_ok (by omega) (by omega) (by omega)
theorem tFields_tot (lc ls k : List UInt8) (st en fl : Nat) (hc : lc.length ≤ 65535) (hs : ls.length ≤ 65535) (hk : k.length = 16) : tot (tFields lc ls k st en fl) ≤ 200000 := by
  have nst := numB_length st
  have nen := numB_length en
  have nfl := numB_length fl
  simp only [tot, tFields, List.map_cons, List.map_nil, List.sum_cons, List.sum_nil]
  omega
theorem aFields_chk (lc k : List UInt8) (ti no : Nat) (hc : lc.length ≤ 65535) (hk : k.length = 16) : ∀ f ∈ aFields lc k ti no, chk f = 0 := by
  intro f hf
  have nti := numB_length ti
  have nno := numB_length no
  simp only [aFields, List.mem_cons, List.not_mem_nil, or_false] at hf
  rcases hf with rfl | rfl | rfl | rfl <;> exact chk_ok (by omega) (by omega) (by omega)
theorem aFields_tot (lc k : List UInt8) (ti no : Nat) (hc : lc.length ≤ 65535) (hk : k.length = 16) : tot (aFields lc k ti no) ≤ 200000 := by
  have nti := numB_length ti
  have nno := numB_length no
  simp only [tot, aFields, List.map_cons, List.map_nil, List.sum_cons, List.sum_nil]
  omega
theorem gFields_chk (ls k : List UInt8) (no st en fl : Nat) (hs : ls.length ≤ 65535) (hk : k.length = 16) : ∀ f ∈ gFields ls k no st en fl, chk f = 0 := by
  intro f hf
  have nno := numB_length no
  have nst := numB_length st
  have nen := numB_length en
  have nfl := numB_length fl
  simp only [gFields, List.mem_cons, List.not_mem_nil, or_false] at hf
  rcases hf with rfl | rfl | rfl | rfl | rfl | rfl <;> exact chk_ok (by omega) (by omega) (by omega)
theorem gFields_tot (ls k : List UInt8) (no st en fl : Nat) (hs : ls.length ≤ 65535) (hk : k.length = 16) : tot (gFields ls k no st en fl) ≤ 200000 := by
  have nno := numB_length no
  have nst := numB_length st
  have nen := numB_length en
  have nfl := numB_length fl
  simp only [tot, gFields, List.map_cons, List.map_nil, List.sum_cons, List.sum_nil]
  omega
end Go.Proofs.YtejmbabeniekhaaDoor
namespace Go.Proofs.YtejmbabeniekhaaDoor
open Go.RowKit

theorem leB_num : ∀ f n, n < 256 ^ f → numOf (leB f n).reverse = n
  | 0, n, h => by simp at h; subst h; rfl
  | f + 1, n, h => by
    unfold leB
    split
    · next h0 => subst h0; rfl
    · rw [List.reverse_cons, numOf_snoc, leB_num f (n / 256) (by rw [Nat.pow_succ] at h; omega)]
      simp; omega
theorem numOf_numB (n : Nat) (h : n < 18446744073709551616) : numOf (numB n) = n := leB_num 8 n h
theorem leB_last : ∀ f n, n < 256 ^ f → (leB f n).getLast? ≠ some 0
  | 0, n, h => by simp [leB]
  | f + 1, n, h => by
    unfold leB
    split
    · simp
    · next h0 =>
      have ih := leB_last f (n / 256) (by rw [Nat.pow_succ] at h; omega)
      rw [List.getLast?_cons]
      cases hl : (leB f (n / 256)).getLast? with
      | some x => rw [hl] at ih; simpa using ih
      | none =>
        rw [List.getLast?_eq_none_iff] at hl
        have hz : n / 256 = 0 := by
          cases f with
          | zero => rw [Nat.pow_succ] at h; simp at h; omega
          | succ f => unfold leB at hl; split at hl <;> simp_all
        simp only [Option.getD_none, ne_eq, Option.some.injEq]
        intro he
        have := congrArg UInt8.toNat he
        simp at this
        omega
theorem readOf_numB (n : Nat) (h : n < 18446744073709551616) : readOf (numB n) = (n, true) := by
  have h1 : (numB n).length ≤ 8 := by unfold numB; rw [List.length_reverse]; exact leB_length 8 n
  have h2 : (numB n).head? ≠ some 0 := by unfold numB; rw [List.head?_reverse]; exact leB_last 8 n h
  rw [readOf, if_pos ⟨h1, h2⟩, numOf_numB n h]
theorem leB_ext : ∀ (l : List UInt8) (f : Nat), l.length ≤ f → l.getLast? ≠ some 0 → leB f (numOf l.reverse) = l
  | [], f, _, _ => by cases f <;> rfl
  | c :: l, 0, h, _ => by simp at h
  | c :: l, f + 1, h, hl => by
    rw [List.reverse_cons, numOf_snoc]
    have hc := c.toNat_lt
    have hne : numOf l.reverse * 256 + c.toNat ≠ 0 := by
      intro h0
      cases l with
      | nil => simp [numOf] at h0; exact hl (by simp [← UInt8.toNat_inj, h0])
      | cons d l =>
        have hl' : (d :: l).getLast? ≠ some 0 := by rw [List.getLast?_cons_cons] at hl; exact hl
        have ih := leB_ext (d :: l) f (by simp at h ⊢; omega) hl'
        have hz : numOf (d :: l).reverse = 0 := by omega
        rw [hz] at ih
        cases f <;> simp [leB] at ih
    have hl' : l.getLast? ≠ some 0 := by
      cases l with
      | nil => simp
      | cons d l => rw [List.getLast?_cons_cons] at hl; exact hl
    unfold leB
    rw [if_neg hne, show (numOf l.reverse * 256 + c.toNat) / 256 = numOf l.reverse by omega, leB_ext l f (by simp at h; omega) hl']
    congr 1
    apply UInt8.toNat_inj.1
    simp
theorem numB_numOf (l : List UInt8) (h : readOf l = (numOf l, true)) : numB (numOf l) = l := by
  have h1 : l.length ≤ 8 ∧ l.head? ≠ some 0 := by
    unfold readOf at h
    split at h
    · assumption
    · simp at h
  have := leB_ext l.reverse 8 (by simpa using h1.1) (by rw [List.getLast?_reverse]; exact h1.2)
  rw [List.reverse_reverse] at this
  rw [numB, this, List.reverse_reverse]

theorem Below.undrew {B : Nat} {w w' : World} (h : Below B w.drew w') : Below B w w' := ⟨h.os, h.tape, h.output, h.size, h.block⟩

theorem and_low (k : Int) (j : Nat) (hj : j ≤ 62) : ∃ m : Nat, m < 2 ^ j ∧ bits .and .i64 k ((2 ^ j - 1 : Nat) : Int) = (m : Int) := by
  have hp : 2 ^ j ≤ 2 ^ 62 := Nat.pow_le_pow_right (by decide) hj
  have h2 : (2 : Nat) ^ 62 = 4611686018427387904 := by decide
  refine ⟨(BitVec.ofInt 64 k).toNat % 2 ^ j, Nat.mod_lt _ (Nat.two_pow_pos j), ?_⟩
  have hb : (BitVec.ofInt 64 (((2 ^ j - 1 : Nat) : Int))).toNat = 2 ^ j - 1 := by
    rw [BitVec.ofInt_natCast, BitVec.toNat_ofNat]
    exact Nat.mod_eq_of_lt (by omega)
  have hm := Nat.mod_lt (BitVec.ofInt 64 k).toNat (Nat.two_pow_pos j)
  show IntKind.i64.wrap (((BitVec.ofInt 64 k &&& BitVec.ofInt 64 ((2 ^ j - 1 : Nat) : Int)).toNat : Nat) : Int) = _
  rw [BitVec.toNat_and, hb, Nat.and_two_pow_sub_one_eq_mod, IntKind.wrap_i64]
  omega

end Go.Proofs.YtejmbabeniekhaaDoor
namespace Go.Proofs.YtejmbabeniekhaaDoor
open Go.RowKit

theorem ba_of (s : ByteArray) : ba s.data.toList = s := by
  apply ByteArray.ext
  simp [ba]
theorem i64w_small (n : Nat) (h : n ≤ 1099511627776) : i64w n = (n : Int) := by
  unfold i64w
  rw [IntKind.wrap_i64]
  omega
theorem bytes_nil {r : List UInt8} (h : splitOf r = ([], 0)) : r = [] := by
  have := joinOf_splitOf r (by rw [h])
  rw [h] at this
  simp only [joinOf, Prod.mk.injEq] at this
  exact this.1.symm
/-- Fields of one number whose bytes begin with others of that number have nothing more. -/
theorem bytes_prefix {fs gs : List Fd} {r : List UInt8} (h1 : ∀ f ∈ fs, chk f = 0) (h2 : ∀ f ∈ gs, chk f = 0) (hl : fs.length = gs.length) (h : bytesF gs ++ r = bytesF fs) : r = [] := by
  have e1 := splitOf_bytes h1
  have e2 := splitOf_bytes h2
  rw [← h, splitOf_app _ _ (by rw [e2]), e2] at e1
  by_cases hz : (splitOf r).2 = 0
  · rw [if_pos hz] at e1
    simp only [Prod.mk.injEq, and_true] at e1
    have hn : (splitOf r).1 = [] := by
      apply List.eq_nil_of_length_eq_zero
      have := congrArg List.length e1
      rw [List.length_append] at this
      omega
    exact bytes_nil (Prod.ext hn hz)
  · rw [if_neg hz] at e1
    simp only [Prod.mk.injEq] at e1
    exact absurd e1.2 hz
theorem take_all {Y : List UInt8} {j : Nat} (h : Y.drop j = []) : Y.length ≤ j := by
  have := congrArg List.length h
  rw [List.length_drop] at this
  simp at this
  omega

/-! t -/
theorem tOk_len {lc ls : List UInt8} {st en fl : Int} (h : tOk lc ls st en fl = true) : lc.length ≤ 67 ∧ ls.length ≤ 67 := by
  simp only [tOk, Bool.and_eq_true] at h
  exact ⟨parses_len h.1, parses_len h.2.1⟩
theorem tOk_int {lc ls : List UInt8} {st en fl : Int} (h : tOk lc ls st en fl = true) : 0 ≤ st ∧ st ≤ 1099511627776 ∧ 0 ≤ en ∧ en ≤ 1099511627776 ∧ 0 ≤ fl ∧ fl ≤ 3 := by
  simp only [tOk, spanOk, timeOk, flagsOk, Bool.and_eq_true, decide_eq_true_eq] at h
  omega
theorem tBytes_chk {lc ls k : List UInt8} {st en fl : Int} (h : tOk lc ls st en fl = true) (hk : k.length = 16) : ∀ f ∈ tFields lc ls k st.toNat en.toNat fl.toNat, chk f = 0 :=
  tFields_chk _ _ _ _ _ _ (by have := tOk_len h; omega) (by have := tOk_len h; omega) hk
theorem tReads_fields {l : List UInt8} (h : tReads l = true) : ∃ gs : List Fd, gs.length = 6 ∧ (∀ f ∈ gs, chk f = 0) ∧ bytesF gs = l := by
  simp only [tReads, Bool.and_eq_true, decide_eq_true_eq] at h
  exact ⟨_, rfl, tBytes_chk h.2.1 (keyB_length _), h.2.2⟩
theorem tReads_cut {lc ls k : List UInt8} {st en fl : Int} (h : tOk lc ls st en fl = true) (hk : k.length = 16) {j : Nat} (hj : j < (bytesF (tFields lc ls k st.toNat en.toNat fl.toNat)).length) : tReads ((bytesF (tFields lc ls k st.toNat en.toNat fl.toNat)).take j) = false := by
  cases hr : tReads ((bytesF (tFields lc ls k st.toNat en.toNat fl.toNat)).take j) with
  | false => rfl
  | true =>
    obtain ⟨gs, h1, h2, h3⟩ := tReads_fields hr
    have h4 := bytes_prefix (r := (bytesF (tFields lc ls k st.toNat en.toNat fl.toNat)).drop j) (tBytes_chk h hk) h2 (by rw [h1]; rfl) (by rw [h3, List.take_append_drop])
    have := take_all h4
    omega
theorem tReads_more {lc ls k : List UInt8} {st en fl : Int} (h : tOk lc ls st en fl = true) (hk : k.length = 16) {m : List UInt8} (hm : m ≠ []) : tReads (bytesF (tFields lc ls k st.toNat en.toNat fl.toNat) ++ m) = false := by
  cases hr : tReads (bytesF (tFields lc ls k st.toNat en.toNat fl.toNat) ++ m) with
  | false => rfl
  | true =>
    obtain ⟨gs, h1, h2, h3⟩ := tReads_fields hr
    exact absurd (bytes_prefix h2 (tBytes_chk h hk) (by rw [h1]; rfl) h3.symm) hm
theorem tVals_back {lc ls k : List UInt8} {st en fl : Int} (h : tOk lc ls st en fl = true) (hk : k.length = 16) : valuesOf (bytesF (tFields lc ls k st.toNat en.toNat fl.toNat)) [1, 2, 3, 4, 5, 6] = ([lc, ls, k, numB st.toNat, numB en.toNat, numB fl.toNat], 0) := valuesOf_same (tBytes_chk h hk)
theorem tMade_back {lc ls k : List UInt8} {st en fl : Int} (h : tOk lc ls st en fl = true) (hk : k.length = 16) : tMade [lc, ls, k, numB st.toNat, numB en.toNat, numB fl.toNat] = tcells (ba lc) (ba ls) k st en fl := by
  have hi := tOk_int h
  have est : i64w (readOf (numB st.toNat)).1 = st := by rw [readOf_numB _ (by omega), i64w_small _ (by omega)]; omega
  have een : i64w (readOf (numB en.toNat)).1 = en := by rw [readOf_numB _ (by omega), i64w_small _ (by omega)]; omega
  have efl : i64w (readOf (numB fl.toNat)).1 = fl := by rw [readOf_numB _ (by omega), i64w_small _ (by omega)]; omega
  show tcells (ba lc) (ba ls) (keyB k) (i64w (readOf (numB st.toNat)).1) (i64w (readOf (numB en.toNat)).1) (i64w (readOf (numB fl.toNat)).1) = _
  rw [keyB_self k hk, est, een, efl]
theorem tReads_back {lc ls k : List UInt8} {st en fl : Int} (h : tOk lc ls st en fl = true) (hk : k.length = 16) : tReads (bytesF (tFields lc ls k st.toNat en.toNat fl.toNat)) = true := by
  have hi := tOk_int h
  have hv := tVals_back h hk (k := k)
  have est : i64w (readOf (numB st.toNat)).1 = st := by rw [readOf_numB _ (by omega), i64w_small _ (by omega)]; omega
  have een : i64w (readOf (numB en.toNat)).1 = en := by rw [readOf_numB _ (by omega), i64w_small _ (by omega)]; omega
  have efl : i64w (readOf (numB fl.toNat)).1 = fl := by rw [readOf_numB _ (by omega), i64w_small _ (by omega)]; omega
  have h1 : tOkV [lc, ls, k, numB st.toNat, numB en.toNat, numB fl.toNat] = true := by
    show tOk lc ls (i64w (readOf (numB st.toNat)).1) (i64w (readOf (numB en.toNat)).1) (i64w (readOf (numB fl.toNat)).1) = true
    rw [est, een, efl]
    exact h
  have h2 : tBytesV [lc, ls, k, numB st.toNat, numB en.toNat, numB fl.toNat] = bytesF (tFields lc ls k st.toNat en.toNat fl.toNat) := by
    show bytesF (tFields lc ls (keyB k) (i64w (readOf (numB st.toNat)).1).toNat (i64w (readOf (numB en.toNat)).1).toNat (i64w (readOf (numB fl.toNat)).1).toNat) = _
    rw [keyB_self k hk, est, een, efl]
  rw [tReads, tVals, hv, h1, h2]
  simp

/-! a -/
theorem aOk_len {lc : List UInt8} {ti : Int} (h : aOk lc ti = true) : lc.length ≤ 67 := by
  simp only [aOk, Bool.and_eq_true] at h
  exact parses_len h.1
theorem aOk_int {lc : List UInt8} {ti : Int} (h : aOk lc ti = true) : 0 ≤ ti ∧ ti ≤ 1099511627776 := by
  simp only [aOk, timeOk, Bool.and_eq_true, decide_eq_true_eq] at h
  omega
theorem aBytes_chk {lc k : List UInt8} {ti : Int} {no : Nat} (h : aOk lc ti = true) (hk : k.length = 16) : ∀ f ∈ aFields lc k ti.toNat no, chk f = 0 :=
  aFields_chk _ _ _ _ (by have := aOk_len h; omega) hk
theorem aReads_fields {l : List UInt8} (h : aReads l = true) : ∃ gs : List Fd, gs.length = 4 ∧ (∀ f ∈ gs, chk f = 0) ∧ bytesF gs = l := by
  simp only [aReads, Bool.and_eq_true, decide_eq_true_eq] at h
  exact ⟨_, rfl, aBytes_chk h.2.1 (keyB_length _), h.2.2⟩
theorem aReads_cut {lc k : List UInt8} {ti : Int} {no : Nat} (h : aOk lc ti = true) (hk : k.length = 16) {j : Nat} (hj : j < (bytesF (aFields lc k ti.toNat no)).length) : aReads ((bytesF (aFields lc k ti.toNat no)).take j) = false := by
  cases hr : aReads ((bytesF (aFields lc k ti.toNat no)).take j) with
  | false => rfl
  | true =>
    obtain ⟨gs, h1, h2, h3⟩ := aReads_fields hr
    have h4 := bytes_prefix (r := (bytesF (aFields lc k ti.toNat no)).drop j) (aBytes_chk h hk) h2 (by rw [h1]; rfl) (by rw [h3, List.take_append_drop])
    have := take_all h4
    omega
theorem aReads_more {lc k : List UInt8} {ti : Int} {no : Nat} (h : aOk lc ti = true) (hk : k.length = 16) {m : List UInt8} (hm : m ≠ []) : aReads (bytesF (aFields lc k ti.toNat no) ++ m) = false := by
  cases hr : aReads (bytesF (aFields lc k ti.toNat no) ++ m) with
  | false => rfl
  | true =>
    obtain ⟨gs, h1, h2, h3⟩ := aReads_fields hr
    exact absurd (bytes_prefix h2 (aBytes_chk h hk) (by rw [h1]; rfl) h3.symm) hm
theorem aVals_back {lc k : List UInt8} {ti : Int} {no : Nat} (h : aOk lc ti = true) (hk : k.length = 16) : valuesOf (bytesF (aFields lc k ti.toNat no)) [11, 12, 13, 14] = ([lc, numB ti.toNat, numB no, k], 0) := valuesOf_same (aBytes_chk h hk)
theorem aMade_back {lc k : List UInt8} {ti : Int} {no : Nat} (h : aOk lc ti = true) (hk : k.length = 16) (hno : no < 18446744073709551616) : aMade [lc, numB ti.toNat, numB no, k] = acells (ba lc) k ti (no : Int) := by
  have hi := aOk_int h
  have eti : i64w (readOf (numB ti.toNat)).1 = ti := by rw [readOf_numB _ (by omega), i64w_small _ (by omega)]; omega
  have eno : ((readOf (numB no)).1 : Int) = (no : Int) := by rw [readOf_numB _ hno]
  show acells (ba lc) (keyB k) (i64w (readOf (numB ti.toNat)).1) ((readOf (numB no)).1 : Int) = _
  rw [keyB_self k hk, eti, eno]
theorem aReads_back {lc k : List UInt8} {ti : Int} {no : Nat} (h : aOk lc ti = true) (hk : k.length = 16) (hno : no < 18446744073709551616) : aReads (bytesF (aFields lc k ti.toNat no)) = true := by
  have hi := aOk_int h
  have hv := aVals_back h hk (k := k) (no := no)
  have eti : i64w (readOf (numB ti.toNat)).1 = ti := by rw [readOf_numB _ (by omega), i64w_small _ (by omega)]; omega
  have eno : (readOf (numB no)).1 = no := by rw [readOf_numB _ hno]
  have h1 : aOkV [lc, numB ti.toNat, numB no, k] = true := by
    show aOk lc (i64w (readOf (numB ti.toNat)).1) = true
    rw [eti]
    exact h
  have h2 : aBytesV [lc, numB ti.toNat, numB no, k] = bytesF (aFields lc k ti.toNat no) := by
    show bytesF (aFields lc (keyB k) (i64w (readOf (numB ti.toNat)).1).toNat (readOf (numB no)).1) = _
    rw [keyB_self k hk, eti, eno]
  rw [aReads, aVals, hv, h1, h2]
  simp

/-! g -/
theorem gOk_len {ls : List UInt8} {st en fl : Int} (h : gOk ls st en fl = true) : ls.length ≤ 67 := by
  simp only [gOk, Bool.and_eq_true] at h
  exact parses_len h.1
theorem gOk_int {ls : List UInt8} {st en fl : Int} (h : gOk ls st en fl = true) : 0 ≤ st ∧ st ≤ 1099511627776 ∧ 0 ≤ en ∧ en ≤ 1099511627776 ∧ 0 ≤ fl ∧ fl ≤ 3 := by
  simp only [gOk, spanOk, timeOk, flagsOk, Bool.and_eq_true, decide_eq_true_eq] at h
  omega
theorem gBytes_chk {ls k : List UInt8} {st en fl : Int} {no : Nat} (h : gOk ls st en fl = true) (hk : k.length = 16) : ∀ f ∈ gFields ls k no st.toNat en.toNat fl.toNat, chk f = 0 :=
  gFields_chk _ _ _ _ _ _ (by have := gOk_len h; omega) hk
theorem gReads_fields {l : List UInt8} (h : gReads l = true) : ∃ gs : List Fd, gs.length = 6 ∧ (∀ f ∈ gs, chk f = 0) ∧ bytesF gs = l := by
  simp only [gReads, Bool.and_eq_true, decide_eq_true_eq] at h
  exact ⟨_, rfl, gBytes_chk h.2.1 (keyB_length _), h.2.2⟩
theorem gReads_cut {ls k : List UInt8} {st en fl : Int} {no : Nat} (h : gOk ls st en fl = true) (hk : k.length = 16) {j : Nat} (hj : j < (bytesF (gFields ls k no st.toNat en.toNat fl.toNat)).length) : gReads ((bytesF (gFields ls k no st.toNat en.toNat fl.toNat)).take j) = false := by
  cases hr : gReads ((bytesF (gFields ls k no st.toNat en.toNat fl.toNat)).take j) with
  | false => rfl
  | true =>
    obtain ⟨gs, h1, h2, h3⟩ := gReads_fields hr
    have h4 := bytes_prefix (r := (bytesF (gFields ls k no st.toNat en.toNat fl.toNat)).drop j) (gBytes_chk h hk) h2 (by rw [h1]; rfl) (by rw [h3, List.take_append_drop])
    have := take_all h4
    omega
theorem gReads_more {ls k : List UInt8} {st en fl : Int} {no : Nat} (h : gOk ls st en fl = true) (hk : k.length = 16) {m : List UInt8} (hm : m ≠ []) : gReads (bytesF (gFields ls k no st.toNat en.toNat fl.toNat) ++ m) = false := by
  cases hr : gReads (bytesF (gFields ls k no st.toNat en.toNat fl.toNat) ++ m) with
  | false => rfl
  | true =>
    obtain ⟨gs, h1, h2, h3⟩ := gReads_fields hr
    exact absurd (bytes_prefix h2 (gBytes_chk h hk) (by rw [h1]; rfl) h3.symm) hm
theorem gVals_back {ls k : List UInt8} {st en fl : Int} {no : Nat} (h : gOk ls st en fl = true) (hk : k.length = 16) : valuesOf (bytesF (gFields ls k no st.toNat en.toNat fl.toNat)) [21, 22, 23, 24, 25, 26] = ([ls, k, numB no, numB st.toNat, numB en.toNat, numB fl.toNat], 0) := valuesOf_same (gBytes_chk h hk)
theorem gMade_back {ls k : List UInt8} {st en fl : Int} {no : Nat} (h : gOk ls st en fl = true) (hk : k.length = 16) (hno : no < 18446744073709551616) : gMade [ls, k, numB no, numB st.toNat, numB en.toNat, numB fl.toNat] = gcells (ba ls) k (no : Int) st en fl := by
  have hi := gOk_int h
  have est : i64w (readOf (numB st.toNat)).1 = st := by rw [readOf_numB _ (by omega), i64w_small _ (by omega)]; omega
  have een : i64w (readOf (numB en.toNat)).1 = en := by rw [readOf_numB _ (by omega), i64w_small _ (by omega)]; omega
  have efl : i64w (readOf (numB fl.toNat)).1 = fl := by rw [readOf_numB _ (by omega), i64w_small _ (by omega)]; omega
  have eno : ((readOf (numB no)).1 : Int) = (no : Int) := by rw [readOf_numB _ hno]
  show gcells (ba ls) (keyB k) ((readOf (numB no)).1 : Int) (i64w (readOf (numB st.toNat)).1) (i64w (readOf (numB en.toNat)).1) (i64w (readOf (numB fl.toNat)).1) = _
  rw [keyB_self k hk, eno, est, een, efl]
theorem gReads_back {ls k : List UInt8} {st en fl : Int} {no : Nat} (h : gOk ls st en fl = true) (hk : k.length = 16) (hno : no < 18446744073709551616) : gReads (bytesF (gFields ls k no st.toNat en.toNat fl.toNat)) = true := by
  have hi := gOk_int h
  have hv := gVals_back h hk (k := k) (no := no)
  have est : i64w (readOf (numB st.toNat)).1 = st := by rw [readOf_numB _ (by omega), i64w_small _ (by omega)]; omega
  have een : i64w (readOf (numB en.toNat)).1 = en := by rw [readOf_numB _ (by omega), i64w_small _ (by omega)]; omega
  have efl : i64w (readOf (numB fl.toNat)).1 = fl := by rw [readOf_numB _ (by omega), i64w_small _ (by omega)]; omega
  have eno : (readOf (numB no)).1 = no := by rw [readOf_numB _ hno]
  have h1 : gOkV [ls, k, numB no, numB st.toNat, numB en.toNat, numB fl.toNat] = true := by
    show gOk ls (i64w (readOf (numB st.toNat)).1) (i64w (readOf (numB en.toNat)).1) (i64w (readOf (numB fl.toNat)).1) = true
    rw [est, een, efl]
    exact h
  have h2 : gBytesV [ls, k, numB no, numB st.toNat, numB en.toNat, numB fl.toNat] = bytesF (gFields ls k no st.toNat en.toNat fl.toNat) := by
    show bytesF (gFields ls (keyB k) (readOf (numB no)).1 (i64w (readOf (numB st.toNat)).1).toNat (i64w (readOf (numB en.toNat)).1).toNat (i64w (readOf (numB fl.toNat)).1).toNat) = _
    rw [keyB_self k hk, eno, est, een, efl]
  rw [gReads, gVals, hv, h1, h2]
  simp
end Go.Proofs.YtejmbabeniekhaaDoor
