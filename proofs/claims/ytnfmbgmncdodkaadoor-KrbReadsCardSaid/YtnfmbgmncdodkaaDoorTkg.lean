/- A ticket, an authenticator, a grant by value, taken apart; the law's own 'long'; what is read of bytes that were written. -/
import Derived.Test.YtnfmbgmncdodkaaDoorTkq
import Derived.ProofKit
import Derived.OpenShut
import Derived.WideShapes
namespace Go.Proofs.YtnfmbgmncdodkaaDoor
open Go.ChangeShapes Go.WideShapes Go.RowKit

def byteOf (v : Value) : UInt8 := match v with
  | .int _ n => UInt8.ofNat n.toNat
  | _ => 0
section
variable {H : Type} {enc : TypeId × Value → H} {P : Program} {w : World} {base : Nat} {spare : Nat → Bool} {held : Bool}
theorem arr_of_trod {t e : TypeId} {n fuel : Nat} {cs : List Value} {x : DataW H × List MemPlace}
    (ht : P.underlying t = some (.array n e)) (he : P.underlying e = some (.int .u8)) (hce : P.cellsOf e = 1) (hlen0 : cs.length = n) (h : DataW.trod enc P w base spare held fuel t cs = some x) :
    ∃ l : List UInt8, cs = bcells l ∧ l.length = n := by
  obtain ⟨xs, m, _, _, hlen, hxl, hg⟩ := DataW.trod_array ht h
  refine ⟨cs.map byteOf, ?_, by simp [hlen0]⟩
  apply List.ext_getElem
  · simp [bcells]
  · intro i h1 h2
    have hi : i < n := by omega
    have hx := hg i hi
    rw [hce, Nat.mul_one] at hx
    have hd : (cs.drop i).take 1 = [cs[i]] := by
      rw [List.drop_eq_getElem_cons h1, List.take_succ_cons, List.take_zero]
    rw [hd, List.getElem?_eq_getElem (by omega)] at hx
    obtain ⟨k, hk, _, hwf⟩ := DataW.trod_int he hx
    simp only [List.cons.injEq, and_true] at hk
    have hb := bounds_u8 hwf
    have hk2 : (bcells (cs.map byteOf))[i]'h2 = Value.int .u8 ((byteOf cs[i]).toNat : Int) := by simp [bcells]
    rw [hk2, hk]
    congr 1
    simp only [byteOf]
    rw [UInt8.toNat_ofNat']
    omega
theorem drop_step (cs : List Value) (a n : Nat) : cs.drop a = (cs.drop a).take n ++ cs.drop (a + n) := by rw [← List.drop_drop, List.take_append_drop]
end

set_option maxRecDepth 10000 in
theorem open_Grant {H : Type} {enc : TypeId × Value → H} {w : World} {base : Nat} {spare : Nat → Bool} {held : Bool} {r : Reach} {b0 : Nat} {v : Value} {d : DataW H} {p : List MemPlace} (hv : Value.okWide Tryd.prog w r b0 47 v) (h : DataW.Trod enc Tryd.prog w base spare held 47 v d p) :
    ∃ (s : ByteArray) (k : List UInt8) (no st en fl : Int), v = .agg (gcells s k no st en fl).toArray ∧ k.length = 16 ∧ (Lit.int .u64 no).wf = true ∧ (Lit.int .i64 st).wf = true ∧ (Lit.int .i64 en).wf = true ∧ (Lit.int .i64 fl).wf = true := by
  obtain ⟨ca, rfl, hsz⟩ := okWide_struct Tryd.underlying47 hv
  obtain ⟨fuel, hf0⟩ := h
  obtain ⟨xs, n, _, _, hlen, hxl, hf⟩ := DataW.trod_struct Tryd.underlying47 hf0
  simp only [Value.cells] at hf hlen
  have hC : Tryd.prog.cellsOf 47 = 21 := by kernel_rfl
  rw [hC] at hlen
  obtain ⟨cs, hcs⟩ : ∃ cs, ca.toList = cs := ⟨_, rfl⟩
  rw [hcs] at hf hlen
  have hC_gangway_api_Key : Tryd.prog.cellsOf 45 = 16 := by kernel_rfl
  have hC_int : Tryd.prog.cellsOf 3 = 1 := by kernel_rfl
  have hC_int64 : Tryd.prog.cellsOf 2 = 1 := by kernel_rfl
  have hC_string : Tryd.prog.cellsOf 9 = 1 := by kernel_rfl
  have hC_uint64 : Tryd.prog.cellsOf 24 = 1 := by kernel_rfl
  match xs, hxl with
  | [y0, y1, y2, y3, y4, y5], _ =>
    have h0 := hf 0 _ rfl
    change DataW.trod enc Tryd.prog w base spare held n 9 (List.take (Tryd.prog.cellsOf 9) (List.drop 0 cs)) = some y0 at h0
    rw [hC_string] at h0
    obtain ⟨s, e0, _, _⟩ := DataW.trod_string Tryd.underlying9 h0
    have h1 := hf 1 _ rfl
    change DataW.trod enc Tryd.prog w base spare held n 45 (List.take (Tryd.prog.cellsOf 45) (List.drop 1 cs)) = some y1 at h1
    rw [hC_gangway_api_Key] at h1
    obtain ⟨k, e1, hk⟩ := arr_of_trod Tryd.underlying45 Tryd.underlying5 (by kernel_rfl) (by rw [List.length_take, List.length_drop, hlen]; rfl) h1
    have h2 := hf 2 _ rfl
    change DataW.trod enc Tryd.prog w base spare held n 24 (List.take (Tryd.prog.cellsOf 24) (List.drop 17 cs)) = some y2 at h2
    rw [hC_uint64] at h2
    obtain ⟨no, e2, _, w2⟩ := DataW.trod_int Tryd.underlying24 h2
    have h3 := hf 3 _ rfl
    change DataW.trod enc Tryd.prog w base spare held n 2 (List.take (Tryd.prog.cellsOf 2) (List.drop 18 cs)) = some y3 at h3
    rw [hC_int64] at h3
    obtain ⟨st, e3, _, w3⟩ := DataW.trod_int Tryd.underlying2 h3
    have h4 := hf 4 _ rfl
    change DataW.trod enc Tryd.prog w base spare held n 2 (List.take (Tryd.prog.cellsOf 2) (List.drop 19 cs)) = some y4 at h4
    rw [hC_int64] at h4
    obtain ⟨en, e4, _, w4⟩ := DataW.trod_int Tryd.underlying2 h4
    have h5 := hf 5 _ rfl
    change DataW.trod enc Tryd.prog w base spare held n 3 (List.take (Tryd.prog.cellsOf 3) (List.drop 20 cs)) = some y5 at h5
    rw [hC_int] at h5
    obtain ⟨fl, e5, _, w5⟩ := DataW.trod_int Tryd.underlying3 h5
    refine ⟨s, k, no, st, en, fl, ?_, hk, w2, w3, w4, w5⟩
    have hall : cs.drop 0 = gcells s k no st en fl := by
      rw [drop_step cs 0 1, e0, show 0 + 1 = 1 from rfl]
      rw [drop_step cs 1 16, e1, show 1 + 16 = 17 from rfl]
      rw [drop_step cs 17 1, e2, show 17 + 1 = 18 from rfl]
      rw [drop_step cs 18 1, e3, show 18 + 1 = 19 from rfl]
      rw [drop_step cs 19 1, e4, show 19 + 1 = 20 from rfl]
      rw [drop_step cs 20 1, e5, show 20 + 1 = 21 from rfl]
      rw [List.drop_eq_nil_of_le (by omega)]
      simp [gcells]
    rw [List.drop_zero] at hall
    congr 1
    apply Array.ext'
    rw [hcs, hall]

/-! 'long'. -/
/-! What is read of bytes that were written. -/
theorem splitOf_bytes {fs : List Fd} (h : ∀ f ∈ fs, chk f = 0) : splitOf (bytesF fs) = (fs, 0) := by
  have h1 := joinOf_ok fs [] h
  rw [List.nil_append] at h1
  have h2 := splitOf_joinOf fs (by rw [h1])
  rwa [h1] at h2
theorem valuesOf_other {fs : List Fd} {ts : List Int} (h : ∀ f ∈ fs, chk f = 0) (hne : fs.map (·.1) ≠ ts) : (valuesOf (bytesF fs) ts).2 ≠ 0 := by
  rw [valuesOf, splitOf_bytes h, if_neg (by simp), if_neg hne]
  simp
theorem valuesOf_same {fs : List Fd} (h : ∀ f ∈ fs, chk f = 0) : valuesOf (bytesF fs) (fs.map (·.1)) = (fs.map (·.2), 0) := by
  rw [valuesOf, splitOf_bytes h, if_neg (by simp), if_pos rfl]
theorem bytesF_length (fs : List Fd) : (bytesF fs).length = tot fs := by
  induction fs with
  | nil => rfl
  | cons f fs ih =>
    rw [show bytesF (f :: fs) = fieldB f ++ bytesF fs from rfl, List.length_append, fieldB_length, ih]
    simp [tot]
theorem Wrote.weak {w w' : World} {ok : Bool} {b : List UInt8} {e : Ending} (h : Wrote w ok b e w') : ∃ (v : Value) (n : Int), e = .returned (.tuple #[v, .int .i64 n]) ∧ w.grownBy w' none := by
  obtain ⟨hg, h⟩ := h
  cases ok with
  | true => rw [if_pos rfl] at h; obtain ⟨v, rfl, _⟩ := h; exact ⟨v, 0, rfl, hg⟩
  | false => rw [if_neg (by simp)] at h; exact ⟨_, 1, h, hg⟩
theorem tFields_chk (lc ls k : List UInt8) (st en fl : Nat) (hc : lc.length ≤ 65535) (hs : ls.length ≤ 65535) (hk : k.length = 16) : ∀ f ∈ tFields lc ls k st en fl, chk f = 0 := by
  intro f hf
  have nst := numB_length st
  have nen := numB_length en
  have nfl := numB_length fl
  simp only [tFields, List.mem_cons, List.not_mem_nil, or_false] at hf
  rcases hf with rfl | rfl | rfl | rfl | rfl | rfl <;> exact chk_ok (by omega) (by omega) (by omega)
theorem tFields_tot (lc ls k : List UInt8) (st en fl : Nat) (hc : lc.length ≤ 65535) (hs : ls.length ≤ 65535) (hk : k.length = 16) : tot (tFields lc ls k st en fl) ≤ 200000 := by
  have nst := numB_length st
  have nen := numB_length en
  have nfl := numB_length fl
  simp only [tot, tFields, List.map_cons, List.map_nil, List.sum_cons, List.sum_nil]
  omega
theorem aFields_chk (lc k : List UInt8) (ti no : Nat) (hc : lc.length ≤ 65535) (hk : k.length = 16) : ∀ f ∈ aFields lc k ti no, chk f = 0 := by
  intro f hf
  have nti := numB_length ti
  have nno := numB_length no
  simp only [aFields, List.mem_cons, List.not_mem_nil, or_false] at hf
  rcases hf with rfl | rfl | rfl | rfl <;> exact chk_ok (by omega) (by omega) (by omega)
theorem aFields_tot (lc k : List UInt8) (ti no : Nat) (hc : lc.length ≤ 65535) (hk : k.length = 16) : tot (aFields lc k ti no) ≤ 200000 := by
  have nti := numB_length ti
  have nno := numB_length no
  simp only [tot, aFields, List.map_cons, List.map_nil, List.sum_cons, List.sum_nil]
  omega
theorem gFields_chk (ls k : List UInt8) (no st en fl : Nat) (hs : ls.length ≤ 65535) (hk : k.length = 16) : ∀ f ∈ gFields ls k no st en fl, chk f = 0 := by
  intro f hf
  have nno := numB_length no
  have nst := numB_length st
  have nen := numB_length en
  have nfl := numB_length fl
  simp only [gFields, List.mem_cons, List.not_mem_nil, or_false] at hf
  rcases hf with rfl | rfl | rfl | rfl | rfl | rfl <;> exact chk_ok (by omega) (by omega) (by omega)
theorem gFields_tot (ls k : List UInt8) (no st en fl : Nat) (hs : ls.length ≤ 65535) (hk : k.length = 16) : tot (gFields ls k no st en fl) ≤ 200000 := by
  have nno := numB_length no
  have nst := numB_length st
  have nen := numB_length en
  have nfl := numB_length fl
  simp only [tot, gFields, List.map_cons, List.map_nil, List.sum_cons, List.sum_nil]
  omega
end Go.Proofs.YtnfmbgmncdodkaaDoor
