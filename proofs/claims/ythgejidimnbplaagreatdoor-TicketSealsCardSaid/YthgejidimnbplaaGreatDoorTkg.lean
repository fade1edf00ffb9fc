/- A ticket, an authenticator, a grant by value, taken apart; the law's own 'long'; what is read of bytes that were written. -/
import Derived.Test.YthgejidimnbplaaGreatDoorTkq
import Derived.ProofKit
import Derived.OpenShut
import Derived.WideShapes
namespace Go.Proofs.YthgejidimnbplaaGreatDoor
open Go.ChangeShapes Go.WideShapes Go.RowKit

def byteOf (v : Value) : UInt8 := match v with
  | .int _ n => UInt8.ofNat n.toNat
  | _ => 0
section
variable {H : Type} {enc : TypeId × Value → H} {P : Program} {w : World} {base : Nat} {spare : Nat → Bool} {held : Bool}
theorem arr_of_trod {t e : TypeId} {n fuel : Nat} {cs : List Value} {x : DataW H × List MemPlace}
    (ht : P.underlying t = some (.array n e)) (he : P.underlying e = some (.int .u8)) (hce : P.cellsOf e = 1) (hlen0 : cs.length = n) (h : DataW.trod enc P w base spare held fuel t cs = some x) :
    ∃ l : List UInt8, cs = bcells l ∧ l.length = n := by
  obtain ⟨xs, m, _, _, hlen, hxl, hg⟩ := DataW.trod_array ht h
  refine ⟨cs.map byteOf, ?_, by simp [hlen0]⟩
  apply List.ext_getElem
  · simp [bcells]
  · intro i h1 h2
    have hi : i < n := by omega
    have hx := hg i hi
    rw [hce, Nat.mul_one] at hx
    have hd : (cs.drop i).take 1 = [cs[i]] := by
      rw [List.drop_eq_getElem_cons h1, List.take_succ_cons, List.take_zero]
    rw [hd, List.getElem?_eq_getElem (by omega)] at hx
    obtain ⟨k, hk, _, hwf⟩ := DataW.trod_int he hx
    simp only [List.cons.injEq, and_true] at hk
    have hb := bounds_u8 hwf
    have hk2 : (bcells (cs.map byteOf))[i]'h2 = Value.int .u8 ((byteOf cs[i]).toNat : Int) := by simp [bcells]
    rw [hk2, hk]
    congr 1
    simp only [byteOf]
    rw [UInt8.toNat_ofNat']
    omega
theorem drop_step (cs : List Value) (a n : Nat) : cs.drop a = (cs.drop a).take n ++ cs.drop (a + n) := by rw [← List.drop_drop, List.take_append_drop]
end

set_option maxRecDepth 10000 in
theorem open_Ticket {H : Type} {enc : TypeId × Value → H} {w : World} {base : Nat} {spare : Nat → Bool} {held : Bool} {r : Reach} {b0 : Nat} {v : Value} {d : DataW H} {p : List MemPlace} (hv : Value.okWide Tryz.prog w r b0 25 v) (h : DataW.Trod enc Tryz.prog w base spare held 25 v d p) :
    ∃ (c s : ByteArray) (k : List UInt8) (st en fl : Int), v = .agg (tcells c s k st en fl).toArray ∧ k.length = 16 ∧ (Lit.int .i64 st).wf = true ∧ (Lit.int .i64 en).wf = true ∧ (Lit.int .i64 fl).wf = true := by
  obtain ⟨ca, rfl, hsz⟩ := okWide_struct Tryz.underlying25 hv
  obtain ⟨fuel, hf0⟩ := h
  obtain ⟨xs, n, _, _, hlen, hxl, hf⟩ := DataW.trod_struct Tryz.underlying25 hf0
  simp only [Value.cells] at hf hlen
  have hC : Tryz.prog.cellsOf 25 = 21 := by kernel_rfl
  rw [hC] at hlen
  obtain ⟨cs, hcs⟩ : ∃ cs, ca.toList = cs := ⟨_, rfl⟩
  rw [hcs] at hf hlen
  have hC_gangway_api_Key : Tryz.prog.cellsOf 23 = 16 := by kernel_rfl
  have hC_int : Tryz.prog.cellsOf 3 = 1 := by kernel_rfl
  have hC_int64 : Tryz.prog.cellsOf 2 = 1 := by kernel_rfl
  have hC_string : Tryz.prog.cellsOf 9 = 1 := by kernel_rfl
  match xs, hxl with
  | [y0, y1, y2, y3, y4, y5], _ =>
    have h0 := hf 0 _ rfl
    change DataW.trod enc Tryz.prog w base spare held n 9 (List.take (Tryz.prog.cellsOf 9) (List.drop 0 cs)) = some y0 at h0
    rw [hC_string] at h0
    obtain ⟨c, e0, _, _⟩ := DataW.trod_string Tryz.underlying9 h0
    have h1 := hf 1 _ rfl
    change DataW.trod enc Tryz.prog w base spare held n 9 (List.take (Tryz.prog.cellsOf 9) (List.drop 1 cs)) = some y1 at h1
    rw [hC_string] at h1
    obtain ⟨s, e1, _, _⟩ := DataW.trod_string Tryz.underlying9 h1
    have h2 := hf 2 _ rfl
    change DataW.trod enc Tryz.prog w base spare held n 23 (List.take (Tryz.prog.cellsOf 23) (List.drop 2 cs)) = some y2 at h2
    rw [hC_gangway_api_Key] at h2
    obtain ⟨k, e2, hk⟩ := arr_of_trod Tryz.underlying23 Tryz.underlying5 (by kernel_rfl) (by rw [List.length_take, List.length_drop, hlen]; rfl) h2
    have h3 := hf 3 _ rfl
    change DataW.trod enc Tryz.prog w base spare held n 2 (List.take (Tryz.prog.cellsOf 2) (List.drop 18 cs)) = some y3 at h3
    rw [hC_int64] at h3
    obtain ⟨st, e3, _, w3⟩ := DataW.trod_int Tryz.underlying2 h3
    have h4 := hf 4 _ rfl
    change DataW.trod enc Tryz.prog w base spare held n 2 (List.take (Tryz.prog.cellsOf 2) (List.drop 19 cs)) = some y4 at h4
    rw [hC_int64] at h4
    obtain ⟨en, e4, _, w4⟩ := DataW.trod_int Tryz.underlying2 h4
    have h5 := hf 5 _ rfl
    change DataW.trod enc Tryz.prog w base spare held n 3 (List.take (Tryz.prog.cellsOf 3) (List.drop 20 cs)) = some y5 at h5
    rw [hC_int] at h5
    obtain ⟨fl, e5, _, w5⟩ := DataW.trod_int Tryz.underlying3 h5
    refine ⟨c, s, k, st, en, fl, ?_, hk, w3, w4, w5⟩
    have hall : cs.drop 0 = tcells c s k st en fl := by
      rw [drop_step cs 0 1, e0, show 0 + 1 = 1 from rfl]
      rw [drop_step cs 1 1, e1, show 1 + 1 = 2 from rfl]
      rw [drop_step cs 2 16, e2, show 2 + 16 = 18 from rfl]
      rw [drop_step cs 18 1, e3, show 18 + 1 = 19 from rfl]
      rw [drop_step cs 19 1, e4, show 19 + 1 = 20 from rfl]
      rw [drop_step cs 20 1, e5, show 20 + 1 = 21 from rfl]
      rw [List.drop_eq_nil_of_le (by omega)]
      simp [tcells]
    rw [List.drop_zero] at hall
    congr 1
    apply Array.ext'
    rw [hcs, hall]

/-! 'long'. -/
set_option maxHeartbeats 400000 in
theorem long_any (g n : Nat) (ls : List ByteArray) (w : World) (hn : ls.length = n) (hb : n ≤ 10) (hc : ∀ (k : Nat) (s : ByteArray), ls[k]? = some s → w.cell? ⟨g, k, none⟩ = some (.string s)) :
    Calls Tryz.prog 5 #[.slice (some ⟨g, 0, none⟩) n n] w fun e w' => e = .returned (.bool (ls.any fun s => decide (300 < s.size))) ∧ w = w' := by
  have HC := Lib.hid hc
  have HN := Lib.hid hn
  obtain ⟨R, hR⟩ : ∃ R, (ls.any fun s => decide (300 < s.size)) = R := ⟨_, rfl⟩
  have HR := Lib.hid hR
  rw [hR]
  clear hc hn hR
  go_enter Tryz.func5, Tryz.ntmps5
  go_wp2
  go_loop [7] (fun i => ∃ k : Nat, i = .int .i64 k ∧ k ≤ n ∧ (ls.drop k).any (fun s => decide (300 < s.size)) = R) (fun i => n - (intOf i).toNat)
  case atStart => exact ⟨0, rfl, Nat.zero_le _, by rw [List.drop_zero]; exact HR.out⟩
  case round =>
    obtain ⟨k, rfl, hk, hr⟩ := hrel
    by_cases hlt : k < n
    · have hkl : k < ls.length := by rw [HN.out]; exact hlt
      obtain ⟨s, hs⟩ : ∃ s, ls[k] = s := ⟨_, rfl⟩
      have c1 := HC.out k s (by rw [List.getElem?_eq_getElem hkl, hs])
      rw [List.drop_eq_getElem_cons hkl, hs, List.any_cons] at hr
      by_cases hl : 300 < s.size
      · have hR1 := Lib.hid (show R = true by rw [← hr, decide_eq_true hl]; rfl)
        have hli : (300 : Int) < (s.size : Int) := by omega
        clear hr hs hkl hl
        go_wp2
        go_ret
        exact ⟨by rw [hR1.out]; rfl, rfl⟩
      · have HS := Lib.hid (show (ls.drop (k + 1)).any (fun s => decide (300 < s.size)) = R by rw [← hr, decide_eq_false hl]; rfl)
        have hli : ¬ ((300 : Int) < (s.size : Int)) := by omega
        clear hr hs hkl hl
        go_wp2
        go_round
        case rel => exact ⟨k + 1, by go_num, by omega, HS.out⟩
        case measure => simp [intOf]; omega
    · obtain rfl : k = n := by omega
      have hR1 := Lib.hid (show R = false by rw [← hr, List.drop_eq_nil_of_le (by rw [HN.out]; exact Nat.le_refl _)]; rfl)
      clear hr
      go_wp2
      go_ret
      exact ⟨by rw [hR1.out]; rfl, rfl⟩

/-! What is read of bytes that were written. -/
theorem splitOf_bytes {fs : List Fd} (h : ∀ f ∈ fs, chk f = 0) : splitOf (bytesF fs) = (fs, 0) := by
  have h1 := joinOf_ok fs [] h
  rw [List.nil_append] at h1
  have h2 := splitOf_joinOf fs (by rw [h1])
  rwa [h1] at h2
theorem valuesOf_other {fs : List Fd} {ts : List Int} (h : ∀ f ∈ fs, chk f = 0) (hne : fs.map (·.1) ≠ ts) : (valuesOf (bytesF fs) ts).2 ≠ 0 := by
  rw [valuesOf, splitOf_bytes h, if_neg (by simp), if_neg hne]
  simp
theorem valuesOf_same {fs : List Fd} (h : ∀ f ∈ fs, chk f = 0) : valuesOf (bytesF fs) (fs.map (·.1)) = (fs.map (·.2), 0) := by
  rw [valuesOf, splitOf_bytes h, if_neg (by simp), if_pos rfl]
theorem bytesF_length (fs : List Fd) : (bytesF fs).length = tot fs := by
  induction fs with
  | nil => rfl
  | cons f fs ih =>
    rw [show bytesF (f :: fs) = fieldB f ++ bytesF fs from rfl, List.length_append, fieldB_length, ih]
    simp [tot]
theorem Wrote.weak {w w' : World} {ok : Bool} {b : List UInt8} {e : Ending} (h : Wrote w ok b e w') : ∃ (v : Value) (n : Int), e = .returned (.tuple #[v, .int .i64 n]) ∧ w.grownBy w' none := by
  obtain ⟨hg, h⟩ := h
  cases ok with
  | true => rw [if_pos rfl] at h; obtain ⟨v, rfl, _⟩ := h; exact ⟨v, 0, rfl, hg⟩
  | false => rw [if_neg (by simp)] at h; exact ⟨_, 1, h, hg⟩
theorem tFields_chk (lc ls k : List UInt8) (st en fl : Nat) (hc : lc.length ≤ 65535) (hs : ls.length ≤ 65535) (hk : k.length = 16) : ∀ f ∈ tFields lc ls k st en fl, chk f = 0 := by
  intro f hf
  have nst := numB_length st
  have nen := numB_length en
  have nfl := numB_length fl
  simp only [tFields, List.mem_cons, List.not_mem_nil, or_false] at hf
  rcases hf with rfl | rfl | rfl | rfl | rfl | rfl <;> exact chk_ok (by omega) (by omega) (by omega)
theorem tFields_tot (lc ls k : List UInt8) (st en fl : Nat) (hc : lc.length ≤ 65535) (hs : ls.length ≤ 65535) (hk : k.length = 16) : tot (tFields lc ls k st en fl) ≤ 200000 := by
  have nst := numB_length st
  have nen := numB_length en
  have nfl := numB_length fl
  simp only [tot, tFields, List.map_cons, List.map_nil, List.sum_cons, List.sum_nil]
  omega
theorem aFields_chk (lc k : List UInt8) (ti no : Nat) (hc : lc.length ≤ 65535) (hk : k.length = 16) : ∀ f ∈ aFields lc k ti no, chk f = 0 := by
  intro f hf
  have nti := numB_length ti
  have nno := numB_length no
  simp only [aFields, List.mem_cons, List.not_mem_nil, or_false] at hf
  rcases hf with rfl | rfl | rfl | rfl <;> exact chk_ok (by omega) (by omega) (by omega)
theorem aFields_tot (lc k : List UInt8) (ti no : Nat) (hc : lc.length ≤ 65535) (hk : k.length = 16) : tot (aFields lc k ti no) ≤ 200000 := by
  have nti := numB_length ti
  have nno := numB_length no
  simp only [tot, aFields, List.map_cons, List.map_nil, List.sum_cons, List.sum_nil]
  omega
theorem gFields_chk (ls k : List UInt8) (no st en fl : Nat) (hs : ls.length ≤ 65535) (hk : k.length = 16) : ∀ f ∈ gFields ls k no st en fl, chk f = 0 := by
  intro f hf
  have nno := numB_length no
  have nst := numB_length st
  have nen := numB_length en
  have nfl := numB_length fl
  simp only [gFields, List.mem_cons, List.not_mem_nil, or_false] at hf
  rcases hf with rfl | rfl | rfl | rfl | rfl | rfl <;> exact chk_ok (by omega) (by omega) (by omega)
theorem gFields_tot (ls k : List UInt8) (no st en fl : Nat) (hs : ls.length ≤ 65535) (hk : k.length = 16) : tot (gFields ls k no st en fl) ≤ 200000 := by
  have nno := numB_length no
  have nst := numB_length st
  have nen := numB_length en
  have nfl := numB_length fl
  simp only [tot, gFields, List.map_cons, List.map_nil, List.sum_cons, List.sum_nil]
  omega
end Go.Proofs.YthgejidimnbplaaGreatDoor
