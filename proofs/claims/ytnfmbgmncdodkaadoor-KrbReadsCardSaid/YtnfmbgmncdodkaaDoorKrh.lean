/- The walk of the document's Same; unlike messages have unlike bytes. -/
import Derived.Test.YtnfmbgmncdodkaaDoorKre
import Derived.Test.YtnfmbgmncdodkaaDoorTko
import Derived.Test.YtnfmbgmncdodkaaDoorTkg
import Derived.ChangeOld
namespace Go.Proofs.YtnfmbgmncdodkaaDoor
open Go.RowKit

/-- Are two messages one? -/
def sameK (a b : Msg) : Bool := decide (a.kd = b.kd) && (decide (a.c = b.c) && (decide (a.s = b.s) && (decide (a.no = b.no) && (decide (a.en = b.en) && (decide (a.fl = b.fl) && (decide (a.t = b.t) && (decide (a.sl = b.sl) && (decide (a.co = b.co)))))))))
theorem bab_true {a b : ByteArray} (h : a = b) : (a == b) = true := by
  subst h
  show (a.data == a.data) = true
  exact beq_self_eq_true _
theorem bab_false {a b : ByteArray} (h : a ≠ b) : (a == b) = false := by
  cases he : (a == b) with
  | false => rfl
  | true => exact absurd (ByteArray.ext (eq_of_beq (show (a.data == b.data) = true from he))) h
theorem ba_of_list {l m : List UInt8} (h : (⟨l.toArray⟩ : ByteArray) = ⟨m.toArray⟩) : l = m := by
  injection h with h
  simpa using h
set_option maxRecDepth 10000 in
set_option maxHeartbeats 4000000 in
theorem same_k (a b : Msg) (T : Option Addr) (tc : Nat) (S : Option Addr) (sc : Nat) (T2 : Option Addr) (tc2 : Nat) (S2 : Option Addr) (sc2 B : Nat) (w : World) (ha : KM w B a T tc S sc) (hb : KM w B b T2 tc2 S2 sc2) (hB : B ≤ w.heap.size) :
    Calls Tryd.prog 8 #[.agg (kcells a T tc S sc).toArray, .agg (kcells b T2 tc2 S2 sc2).toArray] w fun e w' => e = .returned (.bool (sameK a b)) ∧ w.grownBy w' none := by
  obtain ⟨X, hX⟩ : ∃ X, kcells a T tc S sc = X := ⟨_, rfl⟩
  obtain ⟨Y, hY⟩ : ∃ Y, kcells b T2 tc2 S2 sc2 = Y := ⟨_, rfl⟩
  have BX := Lib.hid ((CB.new w 26 X).alloc (.cells Y.toArray 26))
  have BY := Lib.hid (CB.new1 w (.cells X.toArray 26) 26 Y)
  have G0 := Lib.hid (grown_trans' (grown_alloc w (.cells X.toArray 26) none) (grown_alloc _ (.cells Y.toArray 26) none))
  obtain ⟨n3, hn3⟩ : ∃ n, a.t.length = n := ⟨_, rfl⟩
  obtain ⟨n4, hn4⟩ : ∃ n, a.sl.length = n := ⟨_, rfl⟩
  obtain ⟨m3, hm3⟩ : ∃ n, b.t.length = n := ⟨_, rfl⟩
  obtain ⟨m4, hm4⟩ : ∃ n, b.sl.length = n := ⟨_, rfl⟩
  have x0 := BX.out.at_ (i := 0) (v := .int .i64 a.kd) (by rw [← hX]; rfl)
  have y0 := BY.out.at_ (i := 0) (v := .int .i64 b.kd) (by rw [← hY]; rfl)
  have x1 := BX.out.at_ (i := 1) (v := .string a.c) (by rw [← hX]; rfl)
  have y1 := BY.out.at_ (i := 1) (v := .string b.c) (by rw [← hY]; rfl)
  have x2 := BX.out.at_ (i := 2) (v := .string a.s) (by rw [← hX]; rfl)
  have y2 := BY.out.at_ (i := 2) (v := .string b.s) (by rw [← hY]; rfl)
  have x3 := BX.out.at_ (i := 3) (v := .int .u64 (a.no : Int)) (by rw [← hX]; rfl)
  have y3 := BY.out.at_ (i := 3) (v := .int .u64 (b.no : Int)) (by rw [← hY]; rfl)
  have x4 := BX.out.at_ (i := 4) (v := .int .i64 a.en) (by rw [← hX]; rfl)
  have y4 := BY.out.at_ (i := 4) (v := .int .i64 b.en) (by rw [← hY]; rfl)
  have x5 := BX.out.at_ (i := 5) (v := .int .i64 a.fl) (by rw [← hX]; rfl)
  have y5 := BY.out.at_ (i := 5) (v := .int .i64 b.fl) (by rw [← hY]; rfl)
  have x6 := BX.out.at_ (i := 6) (v := .slice T n3 tc) (by rw [← hX, ← hn3]; rfl)
  have y6 := BY.out.at_ (i := 6) (v := .slice T2 m3 tc2) (by rw [← hY, ← hm3]; rfl)
  have x7 := BX.out.at_ (i := 7) (v := .slice S n4 sc) (by rw [← hX, ← hn4]; rfl)
  have y7 := BY.out.at_ (i := 7) (v := .slice S2 m4 sc2) (by rw [← hY, ← hm4]; rfl)
  have x8 := BX.out.at_ (i := 8) (v := .int .i64 a.co) (by rw [← hX]; rfl)
  have y8 := BY.out.at_ (i := 8) (v := .int .i64 b.co) (by rw [← hY]; rfl)
  have s6 := run_strB byteT Tryd.underlying9 ((ha.kept G0.out hB).1)
  have s7 := run_strB byteT Tryd.underlying9 ((ha.kept G0.out hB).2)
  have t6 := run_strB byteT Tryd.underlying9 ((hb.kept G0.out hB).1)
  have t7 := run_strB byteT Tryd.underlying9 ((hb.kept G0.out hB).2)
  rw [hn3] at s6
  rw [hn4] at s7
  rw [hm3] at t6
  rw [hm4] at t7
  rw [sameK, hX, hY]
  clear ha hb hX hY hn3 hn4 hm3 hm4 hB BX BY
  by_cases h0 : a.kd = b.kd
  case neg =>
    have e0 : (a.kd == b.kd) = false := by simpa using h0
    rw [decide_eq_false h0, Bool.false_and]
    go_enter Tryd.func8, Tryd.ntmps8
    dsimp only [List.append]
    go_wp2
    go_ret
    exact ⟨rfl, G0.out⟩
  have e0 : (a.kd == b.kd) = true := by simpa using h0
  rw [decide_eq_true h0, Bool.true_and]
  by_cases h1 : a.c = b.c
  case neg =>
    have e1 := str_ne h1
    rw [decide_eq_false h1, Bool.false_and]
    go_enter Tryd.func8, Tryd.ntmps8
    dsimp only [List.append]
    go_wp2
    go_ret
    exact ⟨rfl, G0.out⟩
  have e1 := bab_true h1
  rw [decide_eq_true h1, Bool.true_and]
  by_cases h2 : a.s = b.s
  case neg =>
    have e2 := str_ne h2
    rw [decide_eq_false h2, Bool.false_and]
    go_enter Tryd.func8, Tryd.ntmps8
    dsimp only [List.append]
    go_wp2
    go_ret
    exact ⟨rfl, G0.out⟩
  have e2 := bab_true h2
  rw [decide_eq_true h2, Bool.true_and]
  by_cases h3 : a.no = b.no
  case neg =>
    have e3 : ((a.no : Int) == (b.no : Int)) = false := by simp only [beq_eq_false_iff_ne]; omega
    rw [decide_eq_false h3, Bool.false_and]
    go_enter Tryd.func8, Tryd.ntmps8
    dsimp only [List.append]
    go_wp2
    go_ret
    exact ⟨rfl, G0.out⟩
  have e3 : ((a.no : Int) == (b.no : Int)) = true := by rw [h3]; simp
  rw [decide_eq_true h3, Bool.true_and]
  by_cases h4 : a.en = b.en
  case neg =>
    have e4 : (a.en == b.en) = false := by simpa using h4
    rw [decide_eq_false h4, Bool.false_and]
    go_enter Tryd.func8, Tryd.ntmps8
    dsimp only [List.append]
    go_wp2
    go_ret
    exact ⟨rfl, G0.out⟩
  have e4 : (a.en == b.en) = true := by simpa using h4
  rw [decide_eq_true h4, Bool.true_and]
  by_cases h5 : a.fl = b.fl
  case neg =>
    have e5 : (a.fl == b.fl) = false := by simpa using h5
    rw [decide_eq_false h5, Bool.false_and]
    go_enter Tryd.func8, Tryd.ntmps8
    dsimp only [List.append]
    go_wp2
    go_ret
    exact ⟨rfl, G0.out⟩
  have e5 : (a.fl == b.fl) = true := by simpa using h5
  rw [decide_eq_true h5, Bool.true_and]
  by_cases h6 : a.t = b.t
  case neg =>
    have e6 : ((⟨a.t.toArray⟩ : ByteArray) == ⟨b.t.toArray⟩) = false := bab_false (fun e => h6 (ba_of_list e))
    rw [decide_eq_false h6, Bool.false_and]
    go_enter Tryd.func8, Tryd.ntmps8
    dsimp only [List.append]
    go_wp2
    go_ret
    exact ⟨rfl, G0.out⟩
  have e6 : ((⟨a.t.toArray⟩ : ByteArray) == ⟨b.t.toArray⟩) = true := bab_true (by rw [h6])
  rw [decide_eq_true h6, Bool.true_and]
  by_cases h7 : a.sl = b.sl
  case neg =>
    have e7 : ((⟨a.sl.toArray⟩ : ByteArray) == ⟨b.sl.toArray⟩) = false := bab_false (fun e => h7 (ba_of_list e))
    rw [decide_eq_false h7, Bool.false_and]
    go_enter Tryd.func8, Tryd.ntmps8
    dsimp only [List.append]
    go_wp2
    go_ret
    exact ⟨rfl, G0.out⟩
  have e7 : ((⟨a.sl.toArray⟩ : ByteArray) == ⟨b.sl.toArray⟩) = true := bab_true (by rw [h7])
  rw [decide_eq_true h7, Bool.true_and]
  by_cases h8 : a.co = b.co
  · have e8 : (a.co == b.co) = true := by simpa using h8
    rw [decide_eq_true h8]
    go_enter Tryd.func8, Tryd.ntmps8
    dsimp only [List.append]
    go_wp2
    go_ret
    exact ⟨rfl, G0.out⟩
  · have e8 : (a.co == b.co) = false := by simpa using h8
    rw [decide_eq_false h8]
    go_enter Tryd.func8, Tryd.ntmps8
    dsimp only [List.append]
    go_wp2
    go_ret
    exact ⟨rfl, G0.out⟩

theorem numB_inj {n m : Nat} (hn : n < 18446744073709551616) (hm : m < 18446744073709551616) (h : numB n = numB m) : n = m := by
  have h1 := readOf_numB n hn
  rw [h, readOf_numB m hm] at h1
  exact (congrArg Prod.fst h1).symm
theorem numB_nil {n : Nat} (hn : n < 18446744073709551616) (h : (numB n).length = 0) : n = 0 :=
  numB_inj hn (by omega) (by rw [List.eq_nil_of_length_eq_zero h]; rfl)
theorem u64n_inj {a b : Int} (ha : I64 a) (hb : I64 b) (h : u64n a = u64n b) : a = b := by
  unfold u64n I64 at *
  omega
/-- Its numbers are such as a message can hold. -/
def I64K (m : Msg) : Prop := I64 m.kd ∧ I64 m.en ∧ I64 m.fl ∧ I64 m.co ∧ m.no < 18446744073709551616
theorem okK_step {m : Msg} (h : okK m = true) {t : Int} (h1 : 32 ≤ t) (h2 : t ≤ 39) : stepK m t = true := by
  simp only [okK, Bool.and_eq_true, List.all_cons, List.all_nil, Bool.and_true] at h
  obtain ⟨_, e32, e33, e34, e35, e36, e37, e38, e39⟩ := h
  have hc : t = 32 ∨ t = 33 ∨ t = 34 ∨ t = 35 ∨ t = 36 ∨ t = 37 ∨ t = 38 ∨ t = 39 := by omega
  rcases hc with rfl | rfl | rfl | rfl | rfl | rfl | rfl | rfl <;> assumption
theorem tagsK_kind {k : Int} (h : tagsK k ≠ []) : 1 ≤ k ∧ k ≤ 7 := by
  by_cases h1 : 1 ≤ k
  · by_cases h2 : k ≤ 7
    · exact ⟨h1, h2⟩
    · exfalso
      apply h
      unfold tagsK
      repeat' rw [if_neg (by omega)]
  · exfalso
    apply h
    unfold tagsK
    repeat' rw [if_neg (by omega)]
theorem tagsK_31 {k : Int} (h : tagsK k ≠ []) : 31 ∈ tagsK k ∧ 34 ∈ tagsK k := by
  have hc : k = 1 ∨ k = 2 ∨ k = 3 ∨ k = 4 ∨ k = 5 ∨ k = 6 ∨ k = 7 := by have := tagsK_kind h; omega
  rcases hc with rfl | rfl | rfl | rfl | rfl | rfl | rfl <;> decide
theorem tagsK_first {k : Int} (h : tagsK k ≠ []) : (tagsK k)[0]? = some 31 := by
  have hc : k = 1 ∨ k = 2 ∨ k = 3 ∨ k = 4 ∨ k = 5 ∨ k = 6 ∨ k = 7 := by have := tagsK_kind h; omega
  rcases hc with rfl | rfl | rfl | rfl | rfl | rfl | rfl <;> rfl
theorem fieldsK_inj {a b : Msg} (la : lensK a) (lb : lensK b) (h : bytesK a = bytesK b) : fieldsK a = fieldsK b := by
  have h1 := splitOf_bytes (fieldsK_chk a la)
  have h2 := splitOf_bytes (fieldsK_chk b lb)
  unfold bytesK at h
  rw [h, h2] at h1
  exact (congrArg Prod.fst h1).symm
theorem valK_of {a b : Msg} (h : fieldsK a = fieldsK b) (hk : a.kd = b.kd) {t : Int} (ht : t ∈ tagsK a.kd) : valK a t = valK b t := by
  unfold fieldsK at h
  rw [← hk] at h
  have h1 := List.map_inj_left.1 h t ht
  exact (Prod.mk.inj h1).2
theorem valK_none {m : Msg} (h : okK m = true) {t : Int} (h1 : 32 ≤ t) (h2 : t ≤ 39) (hn : ¬ t ∈ tagsK m.kd) : valK m t = [] := by
  have hs := okK_step h h1 h2
  unfold stepK at hs
  rw [List.contains_eq_mem, decide_eq_false hn, if_neg (by simp)] at hs
  exact List.eq_nil_of_length_eq_zero (by simpa using hs)
theorem valK_all {a b : Msg} (oa : okK a = true) (ob : okK b = true) (h : fieldsK a = fieldsK b) (hk : a.kd = b.kd) {t : Int} (h1 : 32 ≤ t) (h2 : t ≤ 39) : valK a t = valK b t := by
  by_cases ht : t ∈ tagsK a.kd
  · exact valK_of h hk ht
  · rw [valK_none oa h1 h2 ht, valK_none ob h1 h2 (by rw [← hk]; exact ht)]
theorem bytesK_same {a b : Msg} (la : lensK a) (lb : lensK b) (ia : I64K a) (ib : I64K b) (oa : okK a = true) (ob : okK b = true) : decide (bytesK a = bytesK b) = sameK a b := by
  obtain ⟨a1, a2, a3, a4, a5⟩ := ia
  obtain ⟨b1, b2, b3, b4, b5⟩ := ib
  rw [Bool.eq_iff_iff, decide_eq_true_eq]
  simp only [sameK, Bool.and_eq_true, decide_eq_true_eq]
  constructor
  · intro h
    have hf := fieldsK_inj la lb h
    have f1 : (fieldsK a)[0]? = some (31, valK a 31) := by rw [fieldsK, List.getElem?_map, tagsK_first (okK_tags oa)]; rfl
    have f2 : (fieldsK b)[0]? = some (31, valK b 31) := by rw [fieldsK, List.getElem?_map, tagsK_first (okK_tags ob)]; rfl
    rw [hf, f2] at f1
    have f3 : valK a 31 = valK b 31 := by injection f1 with f1; exact (Prod.mk.inj f1).2.symm
    have hk : a.kd = b.kd := u64n_inj a1 b1 (numB_inj (u64n_lt _) (u64n_lt _) f3)
    have v := fun t h1 h2 => valK_all oa ob hf hk (t := t) h1 h2
    have v32 : a.c.data.toList = b.c.data.toList := v 32 (by omega) (by omega)
    have v33 : a.s.data.toList = b.s.data.toList := v 33 (by omega) (by omega)
    have v34 : numB a.no = numB b.no := v 34 (by omega) (by omega)
    have v35 : numB (u64n a.en) = numB (u64n b.en) := v 35 (by omega) (by omega)
    have v36 : numB (u64n a.fl) = numB (u64n b.fl) := v 36 (by omega) (by omega)
    have v37 : a.t = b.t := v 37 (by omega) (by omega)
    have v38 : a.sl = b.sl := v 38 (by omega) (by omega)
    have v39 : numB (u64n a.co) = numB (u64n b.co) := v 39 (by omega) (by omega)
    exact ⟨hk, ba_inj v32, ba_inj v33, numB_inj a5 b5 v34, u64n_inj a2 b2 (numB_inj (u64n_lt _) (u64n_lt _) v35), u64n_inj a3 b3 (numB_inj (u64n_lt _) (u64n_lt _) v36), v37, v38, u64n_inj a4 b4 (numB_inj (u64n_lt _) (u64n_lt _) v39)⟩
  · rintro ⟨h1, h2, h3, h4, h5, h6, h7, h8, h9⟩
    have he : a = b := by
      cases a
      cases b
      simp only at h1 h2 h3 h4 h5 h6 h7 h8 h9
      subst h1 h2 h3 h4 h5 h6 h7 h8 h9
      rfl
    rw [he]
end Go.Proofs.YtnfmbgmncdodkaaDoor
namespace Go.Proofs.YtnfmbgmncdodkaaDoor
open Go.RowKit Go.ChangeShapes Go.WideShapes

theorem bytes_of_trod {H : Type} {enc : TypeId × Value → H} {w : World} {base : Nat} {held : Bool} {n : Nat} {cs : List Value} {x : DataW H × List MemPlace}
    (h : DataW.trod enc Tryd.prog w base (fun _ => true) held n 22 cs = some x) : ∃ (A : Option Addr) (l : List UInt8) (c : Nat), cs = [.slice A l.length c] ∧ RB w w.heap.size A l c := by
  rcases open_ints Tryd.underlying22 Tryd.underlying5 (by kernel_rfl) h with ⟨hcs, _⟩ | ⟨x, l, c, zs, hcs, _, hl, hm, hz, _, hcell, hwz⟩
  · exact ⟨none, [], 0, hcs, RB.nil_ _ _⟩
  · obtain ⟨m, hml, hr⟩ := RB.of_ints (w := w) (A := some x) (len := l) (cap := c) (zs := zs) (.inr ⟨x, rfl, hl, hm, by simpa using hz, hcell, hwz⟩)
    exact ⟨some x, m, c, by rw [hcs, hml], hr⟩
set_option maxRecDepth 10000 in
theorem open_Krb {H : Type} {enc : TypeId × Value → H} {w : World} {base : Nat} {held : Bool} {r : Reach} {b0 : Nat} {v : Value} {d : DataW H} {p : List MemPlace} (hv : Value.okWide Tryd.prog w r b0 26 v) (h : DataW.Trod enc Tryd.prog w base (fun _ => true) held 26 v d p) :
    ∃ (m : Msg) (T : Option Addr) (tc : Nat) (S : Option Addr) (sc : Nat), v = .agg (kcells m T tc S sc).toArray ∧ KM w w.heap.size m T tc S sc ∧ m.no < 18446744073709551616 ∧ (Lit.int .i64 m.kd).wf = true ∧ (Lit.int .i64 m.en).wf = true ∧ (Lit.int .i64 m.fl).wf = true ∧ (Lit.int .i64 m.co).wf = true := by
  obtain ⟨ca, rfl, hsz⟩ := okWide_struct Tryd.underlying26 hv
  obtain ⟨fuel, hf0⟩ := h
  obtain ⟨xs, n, _, _, hlen, hxl, hf⟩ := DataW.trod_struct Tryd.underlying26 hf0
  simp only [Value.cells] at hf hlen
  have hC : Tryd.prog.cellsOf 26 = 9 := by kernel_rfl
  rw [hC] at hlen
  obtain ⟨cs, hcs⟩ : ∃ cs, ca.toList = cs := ⟨_, rfl⟩
  rw [hcs] at hf hlen
  have hC_int : Tryd.prog.cellsOf 3 = 1 := by kernel_rfl
  have hC_int64 : Tryd.prog.cellsOf 2 = 1 := by kernel_rfl
  have hC_uint64 : Tryd.prog.cellsOf 24 = 1 := by kernel_rfl
  have hC_string : Tryd.prog.cellsOf 9 = 1 := by kernel_rfl
  have hC_bytes : Tryd.prog.cellsOf 22 = 1 := by kernel_rfl
  match xs, hxl with
  | [y0, y1, y2, y3, y4, y5, y6, y7, y8], _ =>
    have h0 := hf 0 _ rfl
    change DataW.trod enc Tryd.prog w base (fun _ => true) held n 3 (List.take (Tryd.prog.cellsOf 3) (List.drop 0 cs)) = some y0 at h0
    rw [hC_int] at h0
    obtain ⟨kd, e0, _, w0⟩ := DataW.trod_int Tryd.underlying3 h0
    have h1 := hf 1 _ rfl
    change DataW.trod enc Tryd.prog w base (fun _ => true) held n 9 (List.take (Tryd.prog.cellsOf 9) (List.drop 1 cs)) = some y1 at h1
    rw [hC_string] at h1
    obtain ⟨c, e1, _, _⟩ := DataW.trod_string Tryd.underlying9 h1
    have h2 := hf 2 _ rfl
    change DataW.trod enc Tryd.prog w base (fun _ => true) held n 9 (List.take (Tryd.prog.cellsOf 9) (List.drop 2 cs)) = some y2 at h2
    rw [hC_string] at h2
    obtain ⟨s, e2, _, _⟩ := DataW.trod_string Tryd.underlying9 h2
    have h3 := hf 3 _ rfl
    change DataW.trod enc Tryd.prog w base (fun _ => true) held n 24 (List.take (Tryd.prog.cellsOf 24) (List.drop 3 cs)) = some y3 at h3
    rw [hC_uint64] at h3
    obtain ⟨no, e3, _, w3⟩ := DataW.trod_int Tryd.underlying24 h3
    have h4 := hf 4 _ rfl
    change DataW.trod enc Tryd.prog w base (fun _ => true) held n 2 (List.take (Tryd.prog.cellsOf 2) (List.drop 4 cs)) = some y4 at h4
    rw [hC_int64] at h4
    obtain ⟨en, e4, _, w4⟩ := DataW.trod_int Tryd.underlying2 h4
    have h5 := hf 5 _ rfl
    change DataW.trod enc Tryd.prog w base (fun _ => true) held n 3 (List.take (Tryd.prog.cellsOf 3) (List.drop 5 cs)) = some y5 at h5
    rw [hC_int] at h5
    obtain ⟨fl, e5, _, w5⟩ := DataW.trod_int Tryd.underlying3 h5
    have h6 := hf 6 _ rfl
    change DataW.trod enc Tryd.prog w base (fun _ => true) held n 22 (List.take (Tryd.prog.cellsOf 22) (List.drop 6 cs)) = some y6 at h6
    rw [hC_bytes] at h6
    obtain ⟨A6, t, c6, e6, r6⟩ := bytes_of_trod h6
    have h7 := hf 7 _ rfl
    change DataW.trod enc Tryd.prog w base (fun _ => true) held n 22 (List.take (Tryd.prog.cellsOf 22) (List.drop 7 cs)) = some y7 at h7
    rw [hC_bytes] at h7
    obtain ⟨A7, sl, c7, e7, r7⟩ := bytes_of_trod h7
    have h8 := hf 8 _ rfl
    change DataW.trod enc Tryd.prog w base (fun _ => true) held n 3 (List.take (Tryd.prog.cellsOf 3) (List.drop 8 cs)) = some y8 at h8
    rw [hC_int] at h8
    obtain ⟨co, e8, _, w8⟩ := DataW.trod_int Tryd.underlying3 h8
    obtain ⟨nn, rfl, hnn⟩ : ∃ m : Nat, no = (m : Int) ∧ m < 18446744073709551616 := by
      have := bounds_u64 w3
      exact ⟨no.toNat, by omega, by omega⟩
    refine ⟨⟨kd, c, s, nn, en, fl, t, sl, co⟩, A6, c6, A7, c7, ?_, ⟨r6, r7⟩, hnn, w0, w4, w5, w8⟩
    have hall : cs.drop 0 = kcells ⟨kd, c, s, nn, en, fl, t, sl, co⟩ A6 c6 A7 c7 := by
      rw [drop_step cs 0 1, e0, show 0 + 1 = 1 from rfl]
      rw [drop_step cs 1 1, e1, show 1 + 1 = 2 from rfl]
      rw [drop_step cs 2 1, e2, show 2 + 1 = 3 from rfl]
      rw [drop_step cs 3 1, e3, show 3 + 1 = 4 from rfl]
      rw [drop_step cs 4 1, e4, show 4 + 1 = 5 from rfl]
      rw [drop_step cs 5 1, e5, show 5 + 1 = 6 from rfl]
      rw [drop_step cs 6 1, e6, show 6 + 1 = 7 from rfl]
      rw [drop_step cs 7 1, e7, show 7 + 1 = 8 from rfl]
      rw [drop_step cs 8 1, e8, show 8 + 1 = 9 from rfl]
      rw [List.drop_eq_nil_of_le (by omega)]
      simp [kcells]
    rw [List.drop_zero] at hall
    congr 1
    apply Array.ext'
    rw [hcs, hall]

theorem yields_conv {P : Program} {ops : Array Oper} {S : World → Prop} {oi : Oper} {a : Act} {s t : TypeId} {u v : Value} (x : Operand) (ho : oi.op = .convert s t x) (hw : Region.wanted oi (yielded ops a.tmps) = true) (hx : a.eval x = u)
    (h : ∀ wx, S wx → (convert s t u).run P wx = .ok v wx) : YieldsIf P ops S oi v a := by
  refine .inl ⟨hw, fun wx hS => ?_⟩
  unfold execOp
  simp only [ho, hx, Sem.run_bind, Sem.run_pure, Result.andThen_ok, h wx hS]
theorem yields_loadC {P : Program} {ops : Array Oper} {S : World → Prop} {oi : Oper} {a : Act} {ty t : TypeId} {n g off : Nat} {cs p : List Value} (hT : AggT P ty n) (x : Operand) (ho : oi.op = .load ty x) (hw : Region.wanted oi (yielded ops a.tmps) = true) (h : ∀ wx, S wx → CB wx g t cs) (hp : (cs.drop off).take n = p) (hl : off + n ≤ cs.length) (hx : a.eval x = .pointer (some ⟨g, off, none⟩)) :
    YieldsIf P ops S oi (.agg p.toArray) a := by
  refine .inl ⟨hw, fun wx hS => ?_⟩
  have hr := run_loadC hT (h wx hS) hp hl
  unfold execOp
  simp only [ho, hx, Instr.loadAt, Instr.sureAddr, Sem.run_bind, Sem.run_pure, Result.andThen_ok, hr]
theorem i64_ofK {n : Int} (h : (Lit.int .i64 n).wf = true) : I64 n := by
  have := bounds_i64 h
  unfold I64
  omega
theorem I64K.of {m : Msg} (hn : m.no < 18446744073709551616) (h1 : (Lit.int .i64 m.kd).wf = true) (h2 : (Lit.int .i64 m.en).wf = true) (h3 : (Lit.int .i64 m.fl).wf = true) (h4 : (Lit.int .i64 m.co).wf = true) : I64K m := ⟨i64_ofK h1, i64_ofK h2, i64_ofK h3, i64_ofK h4, hn⟩
theorem lensK_of {m : Msg} (h : greatK m = false) : lensK m := by
  have := greatK_lens h
  unfold lensK
  omega
end Go.Proofs.YtnfmbgmncdodkaaDoor
