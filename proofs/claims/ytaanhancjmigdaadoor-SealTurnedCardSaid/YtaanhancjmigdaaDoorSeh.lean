/- Scripts for a Sealer that came in; the walk of great. -/
import Derived.Test.YtaanhancjmigdaaDoorSef
import Derived.OpenShut
namespace Go.Proofs.YtaanhancjmigdaaDoor
open Go.ChangeShapes Go.WideShapes Go.RowKit Go.Maps
set_option linter.unusedVariables false

theorem wf64 {n : Int} (h : (Lit.int .i64 n).wf = true) : -9223372036854775808 ≤ n ∧ n ≤ 9223372036854775807 := by
  have h2 := bounds_i64 h
  exact ⟨by omega, by omega⟩
def byteOfB (v : Value) : UInt8 := match v with
  | .int _ n => UInt8.ofNat n.toNat
  | _ => 0
section
variable {H : Type} {enc : TypeId × Value → H} {w : World} {base : Nat} {spare : Nat → Bool} {held : Bool}
theorem arr_of_trodB {P : Program} {t e : TypeId} {n fuel : Nat} {cs : List Value} {x : DataW H × List MemPlace}
    (ht : P.underlying t = some (.array n e)) (he : P.underlying e = some (.int .u8)) (hce : P.cellsOf e = 1) (hlen0 : cs.length = n) (h : DataW.trod enc P w base spare held fuel t cs = some x) :
    ∃ l : List UInt8, cs = bcells l ∧ l.length = n := by
  obtain ⟨xs, m, _, _, hlen, hxl, hg⟩ := DataW.trod_array ht h
  refine ⟨cs.map byteOfB, ?_, by simp [hlen0]⟩
  apply List.ext_getElem
  · simp [bcells]
  · intro i h1 h2
    have hi : i < n := by omega
    have hx := hg i hi
    rw [hce, Nat.mul_one] at hx
    have hd : (cs.drop i).take 1 = [cs[i]] := by
      rw [List.drop_eq_getElem_cons h1, List.take_succ_cons, List.take_zero]
    rw [hd, List.getElem?_eq_getElem (by omega)] at hx
    obtain ⟨k, hk, _, hwf⟩ := DataW.trod_int he hx
    simp only [List.cons.injEq, and_true] at hk
    have hb := bounds_u8 hwf
    have hk2 : (bcells (cs.map byteOfB))[i]'h2 = Value.int .u8 ((byteOfB cs[i]).toNat : Int) := by simp [bcells]
    rw [hk2, hk]
    congr 1
    simp only [byteOfB]
    rw [UInt8.toNat_ofNat']
    omega
theorem drop_stepB (cs : List Value) (a n : Nat) : cs.drop a = (cs.drop a).take n ++ cs.drop (a + n) := by rw [← List.drop_drop, List.take_append_drop]
end
section
variable {H : Type} {enc : TypeId × Value → H} {w : World} {base : Nat} {held : Bool}
theorem bytes_of_trodC {n : Nat} {cs : List Value} {x : DataW H × List MemPlace}
    (h : DataW.trod enc Tryd.prog w base (fun _ => true) held n 32 cs = some x) : ∃ (A : Option Addr) (l : List UInt8) (c : Nat), cs = [.slice A l.length c] ∧ RB w w.heap.size A l c := by
  rcases open_ints Tryd.underlying32 Tryd.underlying5 (by kernel_rfl) h with ⟨hcs, _⟩ | ⟨x, l, c, zs, hcs, _, hl, hm, hz, _, hcell, hwz⟩
  · exact ⟨none, [], 0, hcs, RB.nil_ _ _⟩
  · obtain ⟨m, hml, hr⟩ := RB.of_ints (w := w) (A := some x) (len := l) (cap := c) (zs := zs) (.inr ⟨x, rfl, hl, hm, by simpa using hz, hcell, hwz⟩)
    exact ⟨some x, m, c, by rw [hcs, hml], hr⟩
end
/-- An operation: kind, box, use, key, data and where they lie. -/
structure Op6 where
  k : Int
  b : Int
  u : Int
  ky : List UInt8
  da : List UInt8
  A : Option Addr
  c : Nat
def op6C (o : Op6) : List Value := [.int .i64 o.k, .int .i64 o.b, .int .i64 o.u] ++ (bcells o.ky ++ [.slice o.A o.da.length o.c])
structure op6W (w : World) (o : Op6) : Prop where
  k : -9223372036854775808 ≤ o.k ∧ o.k ≤ 9223372036854775807
  b : -9223372036854775808 ≤ o.b ∧ o.b ≤ 9223372036854775807
  u : -9223372036854775808 ≤ o.u ∧ o.u ≤ 9223372036854775807
  lk : o.ky.length = 16
  r : RB w w.heap.size o.A o.da o.c
theorem op6C_len {w : World} {o : Op6} (h : op6W w o) : (op6C o).length = 20 := by simp [op6C, bcells_length, h.lk]
theorem op6C_one (o : Op6) : ∀ u ∈ op6C o, u.oneCell' = true := by
  intro u hu
  simp only [op6C, List.mem_append, List.mem_cons, List.not_mem_nil, or_false] at hu
  rcases hu with (rfl | rfl | rfl) | h | rfl
  · rfl
  · rfl
  · rfl
  · exact bcells_one _ u h
  · rfl
theorem op6C_k (o : Op6) : (op6C o)[0]? = some (.int .i64 o.k) := rfl
theorem op6C_b (o : Op6) : (op6C o)[1]? = some (.int .i64 o.b) := rfl
theorem op6C_u (o : Op6) : (op6C o)[2]? = some (.int .i64 o.u) := rfl
theorem op6C_key {w : World} {o : Op6} (h : op6W w o) : ((op6C o).drop 3).take 16 = bcells o.ky := by
  show (bcells o.ky ++ [Value.slice o.A o.da.length o.c]).take 16 = _
  rw [List.take_append_of_le_length (by rw [bcells_length, h.lk]; exact Nat.le_refl _)]
  exact List.take_of_length_le (by rw [bcells_length, h.lk]; exact Nat.le_refl _)
theorem op6C_da {w : World} {o : Op6} (h : op6W w o) : (op6C o)[19]? = some (.slice o.A o.da.length o.c) := by
  show (bcells o.ky ++ [Value.slice o.A o.da.length o.c])[16]? = _
  rw [List.getElem?_append_right (by rw [bcells_length, h.lk]; exact Nat.le_refl _), bcells_length, h.lk]
  rfl
section
variable {H : Type} {enc : TypeId × Value → H} {w : World} {base : Nat} {held : Bool}
set_option maxRecDepth 10000 in
theorem op6_of_trod {fuel : Nat} {cs : List Value} {x : DataW H × List MemPlace} (hlen : cs.length = 20) (hf0 : DataW.trod enc Tryd.prog w base (fun _ => true) held fuel 34 cs = some x) : ∃ o : Op6, cs = op6C o ∧ op6W w o := by
  obtain ⟨xs, n, _, _, _, hxl, hf⟩ := DataW.trod_struct Tryd.underlying34 hf0
  have hCk : Tryd.prog.cellsOf 23 = 16 := by kernel_rfl
  have hCi : Tryd.prog.cellsOf 3 = 1 := by kernel_rfl
  have hCb : Tryd.prog.cellsOf 32 = 1 := by kernel_rfl
  match xs, hxl with
  | [y0, y1, y2, y3, y4], _ =>
    have h0 := hf 0 _ rfl
    change DataW.trod enc Tryd.prog w base (fun _ => true) held n 3 (List.take (Tryd.prog.cellsOf 3) (List.drop 0 cs)) = some y0 at h0
    rw [hCi] at h0
    obtain ⟨k, e0, _, w0⟩ := DataW.trod_int Tryd.underlying3 h0
    have h1 := hf 1 _ rfl
    change DataW.trod enc Tryd.prog w base (fun _ => true) held n 3 (List.take (Tryd.prog.cellsOf 3) (List.drop 1 cs)) = some y1 at h1
    rw [hCi] at h1
    obtain ⟨b, e1, _, w1⟩ := DataW.trod_int Tryd.underlying3 h1
    have h2 := hf 2 _ rfl
    change DataW.trod enc Tryd.prog w base (fun _ => true) held n 3 (List.take (Tryd.prog.cellsOf 3) (List.drop 2 cs)) = some y2 at h2
    rw [hCi] at h2
    obtain ⟨u, e2, _, w2⟩ := DataW.trod_int Tryd.underlying3 h2
    have h3 := hf 3 _ rfl
    change DataW.trod enc Tryd.prog w base (fun _ => true) held n 23 (List.take (Tryd.prog.cellsOf 23) (List.drop 3 cs)) = some y3 at h3
    rw [hCk] at h3
    obtain ⟨ky, e3, hk⟩ := arr_of_trodB Tryd.underlying23 Tryd.underlying5 (by kernel_rfl) (by rw [List.length_take, List.length_drop, hlen]; rfl) h3
    have h4 := hf 4 _ rfl
    change DataW.trod enc Tryd.prog w base (fun _ => true) held n 32 (List.take (Tryd.prog.cellsOf 32) (List.drop 19 cs)) = some y4 at h4
    rw [hCb] at h4
    obtain ⟨A, da, c, e4, hr⟩ := bytes_of_trodC h4
    refine ⟨⟨k, b, u, ky, da, A, c⟩, ?_, ⟨wf64 w0, wf64 w1, wf64 w2, hk, hr⟩⟩
    have hall : cs.drop 0 = [.int .i64 k] ++ ([.int .i64 b] ++ ([.int .i64 u] ++ (bcells ky ++ [.slice A da.length c]))) := by
      rw [drop_stepB cs 0 1, e0, show 0 + 1 = 1 from rfl]
      rw [drop_stepB cs 1 1, e1, show 1 + 1 = 2 from rfl]
      rw [drop_stepB cs 2 1, e2, show 2 + 1 = 3 from rfl]
      rw [drop_stepB cs 3 16, e3, show 3 + 16 = 19 from rfl]
      rw [drop_stepB cs 19 1, e4, show 19 + 1 = 20 from rfl]
      rw [List.drop_eq_nil_of_le (by omega), List.append_nil]
    rw [List.drop_zero] at hall
    rw [hall]
    rfl
set_option maxRecDepth 10000 in
theorem ops6_of_trod {A : Option Addr} {len cap : Nat} {d : DataW H} {p : List MemPlace} (h : DataW.Trod enc Tryd.prog w base (fun _ => true) held 24 (.slice A len cap) d p) :
    ∃ us : List Op6, us.length = len ∧ SR w w.heap.size A 20 (us.map op6C) cap ∧ ∀ u ∈ us, op6W w u :=
  haveI : Inhabited Op6 := ⟨⟨0, 0, 0, [], [], none, 0⟩⟩
  SR.of_trod Tryd.underlying24 (by kernel_rfl) (by decide : 0 < 20) op6C (op6W w) (fun _ h => op6C_len h) (fun _ _ _ hl hx => op6_of_trod hl hx) h
end
def zeroO6 : List Value := op6C ⟨0, 0, 0, zeros 16, [], none, 0⟩
theorem zeroO6_length : zeroO6.length = 20 := rfl
set_option maxRecDepth 100000 in
theorem zeroO6_run (w : World) : (zeroValue 34).run Tryd.prog w = .ok (.agg zeroO6.toArray) w := by kernel_rfl
theorem aggO6 : AggT Tryd.prog 34 20 := ⟨fun _ => by kernel_rfl, by kernel_rfl⟩
def longO6 (o : Op6) : Bool := decide (2100 < o.da.length)
def greatO6 (l : List Op6) : Bool := decide (12 < l.length) || l.any longO6
theorem any_take6 {l : List Op6} {k : Nat} (hk : k < l.length) : (l.take (k + 1)).any longO6 = ((l.take k).any longO6 || longO6 l[k]) := by
  rw [List.take_succ_eq_append_getElem hk, List.any_append]
  simp
theorem great_len6 {l : List Op6} (h : greatO6 l = false) : l.length ≤ 12 := by
  unfold greatO6 at h
  rw [Bool.or_eq_false_iff] at h
  have := of_decide_eq_false h.1
  omega
theorem great_ok6 {l : List Op6} (h : greatO6 l = false) {o : Op6} (ho : o ∈ l) : o.da.length ≤ 2100 := by
  unfold greatO6 at h
  rw [Bool.or_eq_false_iff] at h
  have h2 := h.2
  rw [List.any_eq_false] at h2
  have h3 := h2 o ho
  unfold longO6 at h3
  simp at h3
  omega

set_option maxRecDepth 10000 in
set_option maxHeartbeats 2000000 in
theorem sgreat_any (w w0 : World) (A : Option Addr) (l : List Op6) (n cap B : Nat) (hn : l.length = n) (hA : SR w B A 20 (l.map op6C) cap) (hB : B ≤ w.heap.size) (hl : ∀ o ∈ l, op6W w0 o) :
    Calls Tryd.prog 10 #[.slice A n cap] w fun e w' => e = .returned (.bool (greatO6 l)) ∧ w.grownBy w' none := by
  by_cases h0 : 12 < n
  · have t0 : decide ((12 : Int) < (n : Int)) = true := decide_eq_true (by omega)
    have hg : greatO6 l = true := by unfold greatO6; rw [hn, decide_eq_true h0]; rfl
    rw [hg]
    clear h0 hA hB hl hg hn
    go_enter Tryd.func10, Tryd.ntmps10
    go_wp2
    go_ret
    exact ⟨rfl, World.grownBy.refl _ _⟩
  · have t0 : decide ((12 : Int) < (n : Int)) = false := decide_eq_false (by omega)
    have hg : greatO6 l = l.any longO6 := by unfold greatO6; rw [hn, decide_eq_false h0]; rfl
    rw [hg]
    have HN := Lib.hid hn
    have HA := Lib.hid hA
    have HB := Lib.hid hB
    have HL := Lib.hid hl
    have N0 := Lib.hid h0
    clear h0 hA hB hl hg hn
    go_enter Tryd.func10, Tryd.ntmps10
    go_wp2
    clear t0
    go_loopw [10] (fun v wr => ∃ k : Nat, k ≤ n ∧ v = .int .i64 k ∧ (l.take k).any longO6 = false ∧ w.grownBy wr none) (fun v _ => n - (intOf v).toNat)
    case atStart => exact ⟨0, Nat.zero_le _, rfl, rfl, World.grownBy.refl _ _⟩
    case round =>
      obtain ⟨k, hk, rfl, hany, hW⟩ := hrel
      have HW := Lib.hid hW
      have hn0 := N0.out
      by_cases hlt : k < n
      · obtain ⟨o, ho⟩ : ∃ o, o = l[k]'(by rw [HN.out]; exact hlt) := ⟨_, rfl⟩
        obtain ⟨ab, ao, hAe, hab, hcells⟩ := HA.out.elem (k := k) (by rw [List.length_map, HN.out]; exact hlt)
        have HOW := Lib.hid (show op6W w0 o by rw [ho]; exact HL.out _ (List.getElem_mem _))
        have hce : (l.map op6C)[k]'(by rw [List.length_map, HN.out]; exact hlt) = op6C o := by rw [List.getElem_map, ho]
        rw [hce] at hcells
        have HCELL := Lib.hid (show ∀ j v, (op6C o)[j]? = some v → wr.cell? ⟨ab, ao + 20 * k + j, none⟩ = some v from fun j v hj => ((below_of_none HW.out).cell (p := ⟨ab, _, none⟩) (Nat.lt_of_lt_of_le hab HB.out)).trans (hcells j v hj))
        have HNX := Lib.hid (show (l.take (k + 1)).any longO6 = longO6 o by rw [any_take6 (by rw [HN.out]; exact hlt), hany, ho]; rfl)
        have HMEM := Lib.hid (show o ∈ l by rw [ho]; exact List.getElem_mem _)
        subst hAe
        clear hW hce hcells ho hab hany
        have HB1 := Lib.hid (CB.new wr 34 zeroO6)
        obtain ⟨b1, hb1⟩ : ∃ b, b = decide (2100 < o.da.length) := ⟨_, rfl⟩
        have HE := Lib.hid (show longO6 o = b1 by rw [hb1]; rfl)
        have e1 : decide ((2100 : Int) < (o.da.length : Int)) = b1 := by rw [hb1]; exact decide_eq_decide.2 (by omega)
        have TK0 := Lib.hid True.intro
        clear hb1
        have HTR := Lib.hid (show longO6 o = true → l.any longO6 = true from fun h => List.any_eq_true.2 ⟨o, HMEM.out, h⟩)
        cases b1 with
        | true =>
          have HT := Lib.hid (HTR.out (by rw [HE.out]))
          go_wp2_with (first
            | (have hx := TK0; refine wpList_loadX (p := op6C o) aggO6 rfl (.tmp 12) rfl (b := ab) (off := ao + 20 * k) HCELL.out (op6C_len HOW.out) (by first | rfl | go_simp) ?_; clear hx TK0; have TK1 := Lib.hid True.intro)
            | (have hx := TK1; refine wpList_allocC zeroO6_run rfl rfl ?_; clear hx TK1; have TK2 := Lib.hid True.intro)
            | (have hx := TK2; refine wpList_storeC (off := 0) (p := op6C o) aggO6.hi rfl (.tmp 4) (.tmp 13) rfl (.agg (op6C o).toArray) rfl (op6C_one o) HB1.out (op6C_len HOW.out) (by rw [zeroO6_length]; omega) (by first | rfl | go_simp) (by first | rfl | go_simp) ?_; clear hx TK2; intro w2 h2 g2; rw [over_all _ _ (Nat.le_of_eq (by rw [zeroO6_length, op6C_len HOW.out]))] at h2; have q3 := h2.at_ (op6C_da HOW.out); have W2 := Lib.hid (none_new (grown_trans' HW.out (grown_alloc wr (.cells zeroO6.toArray 34) none)) g2 HW.out.size); clear h2 g2))
          go_ret
          rw [HT.out]
          exact ⟨rfl, W2.out⟩
        | false =>
          have HF := Lib.hid (show longO6 o = false by rw [HE.out])
          go_wp2_with (first
            | (have hx := TK0; refine wpList_loadX (p := op6C o) aggO6 rfl (.tmp 12) rfl (b := ab) (off := ao + 20 * k) HCELL.out (op6C_len HOW.out) (by first | rfl | go_simp) ?_; clear hx TK0; have TK1 := Lib.hid True.intro)
            | (have hx := TK1; refine wpList_allocC zeroO6_run rfl rfl ?_; clear hx TK1; have TK2 := Lib.hid True.intro)
            | (have hx := TK2; refine wpList_storeC (off := 0) (p := op6C o) aggO6.hi rfl (.tmp 4) (.tmp 13) rfl (.agg (op6C o).toArray) rfl (op6C_one o) HB1.out (op6C_len HOW.out) (by rw [zeroO6_length]; omega) (by first | rfl | go_simp) (by first | rfl | go_simp) ?_; clear hx TK2; intro w2 h2 g2; rw [over_all _ _ (Nat.le_of_eq (by rw [zeroO6_length, op6C_len HOW.out]))] at h2; have q3 := h2.at_ (op6C_da HOW.out); have W2 := Lib.hid (none_new (grown_trans' HW.out (grown_alloc wr (.cells zeroO6.toArray 34) none)) g2 HW.out.size); clear h2 g2))
          go_roundw
          case rel => exact ⟨k + 1, by omega, by go_num, by rw [HNX.out, HF.out], W2.out⟩
          case measure => simp [intOf]; omega
      · have HE := Lib.hid (show l.any longO6 = false by
          rw [show k = n by omega, ← HN.out, List.take_length] at hany
          exact hany)
        clear hW hany
        go_wp2
        go_ret
        rw [HE.out]
        exact ⟨rfl, HW.out⟩
end Go.Proofs.YtaanhancjmigdaaDoor
