/- Entries and scripts that came in; the walk of great. -/
import Derived.Test.YtejmbabeniekhaaDoorBse
namespace Go.Proofs.YtejmbabeniekhaaDoor
open Go.ChangeShapes Go.WideShapes Go.RowKit Go.Maps Go.WideMaps

/-- What is known of an entry that came in. -/
structure enW (e : En) : Prop where
  lk : e.2.1.length = 16
  li : -9223372036854775808 ≤ e.2.2.1 ∧ e.2.2.1 ≤ 9223372036854775807
  fl : -9223372036854775808 ≤ e.2.2.2.1 ∧ e.2.2.2.1 ≤ 9223372036854775807
theorem enW.ok {e : En} (h : enW e) (hl : e.1.length ≤ 1000) : enOk e := ⟨hl, h.lk, h.li, h.fl⟩
theorem wf64 {n : Int} (h : (Lit.int .i64 n).wf = true) : -9223372036854775808 ≤ n ∧ n ≤ 9223372036854775807 := by
  have h2 := bounds_i64 h
  exact ⟨by omega, by omega⟩
def byteOfB (v : Value) : UInt8 := match v with
  | .int _ n => UInt8.ofNat n.toNat
  | _ => 0
section
variable {H : Type} {enc : TypeId × Value → H} {w : World} {base : Nat} {spare : Nat → Bool} {held : Bool}
theorem arr_of_trodB {P : Program} {t e : TypeId} {n fuel : Nat} {cs : List Value} {x : DataW H × List MemPlace}
    (ht : P.underlying t = some (.array n e)) (he : P.underlying e = some (.int .u8)) (hce : P.cellsOf e = 1) (hlen0 : cs.length = n) (h : DataW.trod enc P w base spare held fuel t cs = some x) :
    ∃ l : List UInt8, cs = bcells l ∧ l.length = n := by
  obtain ⟨xs, m, _, _, hlen, hxl, hg⟩ := DataW.trod_array ht h
  refine ⟨cs.map byteOfB, ?_, by simp [hlen0]⟩
  apply List.ext_getElem
  · simp [bcells]
  · intro i h1 h2
    have hi : i < n := by omega
    have hx := hg i hi
    rw [hce, Nat.mul_one] at hx
    have hd : (cs.drop i).take 1 = [cs[i]] := by
      rw [List.drop_eq_getElem_cons h1, List.take_succ_cons, List.take_zero]
    rw [hd, List.getElem?_eq_getElem (by omega)] at hx
    obtain ⟨k, hk, _, hwf⟩ := DataW.trod_int he hx
    simp only [List.cons.injEq, and_true] at hk
    have hb := bounds_u8 hwf
    have hk2 : (bcells (cs.map byteOfB))[i]'h2 = Value.int .u8 ((byteOfB cs[i]).toNat : Int) := by simp [bcells]
    rw [hk2, hk]
    congr 1
    simp only [byteOfB]
    rw [UInt8.toNat_ofNat']
    omega
theorem drop_stepB (cs : List Value) (a n : Nat) : cs.drop a = (cs.drop a).take n ++ cs.drop (a + n) := by rw [← List.drop_drop, List.take_append_drop]
set_option maxRecDepth 10000 in
theorem entry_of_trod {fuel : Nat} {cs : List Value} {x : DataW H × List MemPlace} (hlen : cs.length = 20) (hf0 : DataW.trod enc Tryd.prog w base spare held fuel 51 cs = some x) : ∃ e : En, cs = enC e ∧ enW e := by
  obtain ⟨xs, n, _, _, _, hxl, hf⟩ := DataW.trod_struct Tryd.underlying51 hf0
  have hCk : Tryd.prog.cellsOf 49 = 16 := by kernel_rfl
  have hC6 : Tryd.prog.cellsOf 2 = 1 := by kernel_rfl
  have hCs : Tryd.prog.cellsOf 9 = 1 := by kernel_rfl
  have hCi : Tryd.prog.cellsOf 3 = 1 := by kernel_rfl
  have hCb : Tryd.prog.cellsOf 4 = 1 := by kernel_rfl
  match xs, hxl with
  | [y0, y1, y2, y3, y4], _ =>
    have h0 := hf 0 _ rfl
    change DataW.trod enc Tryd.prog w base spare held n 9 (List.take (Tryd.prog.cellsOf 9) (List.drop 0 cs)) = some y0 at h0
    rw [hCs] at h0
    obtain ⟨c, e0, _, _⟩ := DataW.trod_string Tryd.underlying9 h0
    have h1 := hf 1 _ rfl
    change DataW.trod enc Tryd.prog w base spare held n 49 (List.take (Tryd.prog.cellsOf 49) (List.drop 1 cs)) = some y1 at h1
    rw [hCk] at h1
    obtain ⟨k, e1, hk⟩ := arr_of_trodB Tryd.underlying49 Tryd.underlying5 (by kernel_rfl) (by rw [List.length_take, List.length_drop, hlen]; rfl) h1
    have h2 := hf 2 _ rfl
    change DataW.trod enc Tryd.prog w base spare held n 2 (List.take (Tryd.prog.cellsOf 2) (List.drop 17 cs)) = some y2 at h2
    rw [hC6] at h2
    obtain ⟨li, e2, _, w2⟩ := DataW.trod_int Tryd.underlying2 h2
    have h3 := hf 3 _ rfl
    change DataW.trod enc Tryd.prog w base spare held n 3 (List.take (Tryd.prog.cellsOf 3) (List.drop 18 cs)) = some y3 at h3
    rw [hCi] at h3
    obtain ⟨fl, e3, _, w3⟩ := DataW.trod_int Tryd.underlying3 h3
    have h4 := hf 4 _ rfl
    change DataW.trod enc Tryd.prog w base spare held n 4 (List.take (Tryd.prog.cellsOf 4) (List.drop 19 cs)) = some y4 at h4
    rw [hCb] at h4
    obtain ⟨of, e4, _⟩ := DataW.trod_bool Tryd.underlying4 h4
    refine ⟨(c.data.toList, k, li, fl, of), ?_, ⟨hk, wf64 w2, wf64 w3⟩⟩
    have hall : cs.drop 0 = [.string c] ++ bcells k ++ [.int .i64 li, .int .i64 fl, .bool of] := by
      rw [drop_stepB cs 0 1, e0, show 0 + 1 = 1 from rfl]
      rw [drop_stepB cs 1 16, e1, show 1 + 16 = 17 from rfl]
      rw [drop_stepB cs 17 1, e2, show 17 + 1 = 18 from rfl]
      rw [drop_stepB cs 18 1, e3, show 18 + 1 = 19 from rfl]
      rw [drop_stepB cs 19 1, e4, show 19 + 1 = 20 from rfl]
      rw [List.drop_eq_nil_of_le (by omega)]
      simp
    rw [List.drop_zero] at hall
    rw [hall]
    rfl
set_option maxRecDepth 10000 in
theorem open_Entry {r : Reach} {b0 : Nat} {v : Value} {d : DataW H} {p : List MemPlace} (hv : Value.okWide Tryd.prog w r b0 51 v) (h : DataW.Trod enc Tryd.prog w base spare held 51 v d p) :
    ∃ e : En, v = .agg (enC e).toArray ∧ enW e := by
  obtain ⟨ca, rfl, hsz⟩ := okWide_struct Tryd.underlying51 hv
  obtain ⟨fuel, hf0⟩ := h
  obtain ⟨xs, n, _, _, hlen, _, _⟩ := DataW.trod_struct Tryd.underlying51 hf0
  simp only [Value.cells] at hf0 hlen
  have hC : Tryd.prog.cellsOf 51 = 20 := by kernel_rfl
  rw [hC] at hlen
  obtain ⟨e, he, hw⟩ := entry_of_trod hlen hf0
  refine ⟨e, ?_, hw⟩
  congr 1
  apply Array.ext'
  rw [he]
abbrev Op9 := Int × En
def op9C (o : Op9) : List Value := [.int .i64 o.1] ++ enC o.2
structure op9W (o : Op9) : Prop where
  k : -9223372036854775808 ≤ o.1 ∧ o.1 ≤ 9223372036854775807
  e : enW o.2
theorem op9C_len {o : Op9} (h : op9W o) : (op9C o).length = 21 := by rw [op9C, List.length_append, enC_length h.e.lk]; rfl
theorem op9C_one (o : Op9) : ∀ u ∈ op9C o, u.oneCell' = true := by
  intro u hu
  rcases List.mem_append.1 hu with hu | hu
  · rw [List.mem_singleton.1 hu]; rfl
  · exact enC_one _ u hu
theorem op9C_k (o : Op9) : (op9C o)[0]? = some (.int .i64 o.1) := rfl
theorem op9C_name (o : Op9) : (op9C o)[1]? = some (.string ⟨o.2.1.toArray⟩) := rfl
theorem op9C_en {o : Op9} (h : op9W o) : ((op9C o).drop 1).take 20 = enC o.2 := by
  show (enC o.2).take 20 = _
  exact List.take_of_length_le (by rw [enC_length h.e.lk]; exact Nat.le_refl _)
set_option maxRecDepth 10000 in
theorem op9_of_trod {fuel : Nat} {cs : List Value} {x : DataW H × List MemPlace} (hlen : cs.length = 21) (hf0 : DataW.trod enc Tryd.prog w base spare held fuel 53 cs = some x) : ∃ o : Op9, cs = op9C o ∧ op9W o := by
  obtain ⟨xs, n, _, _, _, hxl, hf⟩ := DataW.trod_struct Tryd.underlying53 hf0
  have hCi : Tryd.prog.cellsOf 3 = 1 := by kernel_rfl
  have hCe : Tryd.prog.cellsOf 51 = 20 := by kernel_rfl
  match xs, hxl with
  | [y0, y1], _ =>
    have h0 := hf 0 _ rfl
    change DataW.trod enc Tryd.prog w base spare held n 3 (List.take (Tryd.prog.cellsOf 3) (List.drop 0 cs)) = some y0 at h0
    rw [hCi] at h0
    obtain ⟨k, e0, _, w0⟩ := DataW.trod_int Tryd.underlying3 h0
    have h1 := hf 1 _ rfl
    change DataW.trod enc Tryd.prog w base spare held n 51 (List.take (Tryd.prog.cellsOf 51) (List.drop 1 cs)) = some y1 at h1
    rw [hCe] at h1
    obtain ⟨e, e1, w1⟩ := entry_of_trod (by rw [List.length_take, List.length_drop, hlen]; rfl) h1
    refine ⟨(k, e), ?_, ⟨wf64 w0, w1⟩⟩
    have hall : cs.drop 0 = op9C (k, e) := by
      rw [drop_stepB cs 0 1, e0, show 0 + 1 = 1 from rfl]
      rw [drop_stepB cs 1 20, e1, show 1 + 20 = 21 from rfl]
      rw [List.drop_eq_nil_of_le (by omega)]
      simp [op9C]
    rw [List.drop_zero] at hall
    exact hall
set_option maxRecDepth 10000 in
theorem ops9_of_trod {A : Option Addr} {len cap : Nat} {d : DataW H} {p : List MemPlace} (h : DataW.Trod enc Tryd.prog w base spare held 40 (.slice A len cap) d p) :
    ∃ us : List Op9, us.length = len ∧ SR w w.heap.size A 21 (us.map op9C) cap ∧ ∀ u ∈ us, op9W u :=
  SR.of_trod Tryd.underlying40 (by kernel_rfl) (by omega) op9C op9W (fun _ h => op9C_len h) (fun _ _ _ hl hx => op9_of_trod hl hx) h
end
def zeroO9 : List Value := [.int .i64 0] ++ enC zeroEn
theorem zeroO9_length : zeroO9.length = 21 := by rw [zeroO9, List.length_append, enC_length (zeros_length 16)]; rfl
theorem zeroO9_run (w : World) : (zeroValue 53).run Tryd.prog w = .ok (.agg zeroO9.toArray) w := by kernel_rfl
theorem aggO9 : AggT Tryd.prog 53 21 := ⟨fun _ => by kernel_rfl, by kernel_rfl⟩

def longO9 (o : Op9) : Bool := decide (300 < o.2.1.length)
def greatO9 (l : List Op9) : Bool := decide (60 < l.length) || l.any longO9
theorem any_take9 {l : List Op9} {k : Nat} (hk : k < l.length) : (l.take (k + 1)).any longO9 = ((l.take k).any longO9 || longO9 l[k]) := by
  rw [List.take_succ_eq_append_getElem hk, List.any_append]
  simp
theorem great_len9 {l : List Op9} (h : greatO9 l = false) : l.length ≤ 60 := by
  unfold greatO9 at h
  rw [Bool.or_eq_false_iff] at h
  have := of_decide_eq_false h.1
  omega
theorem great_name9 {l : List Op9} (h : greatO9 l = false) {o : Op9} (ho : o ∈ l) : o.2.1.length ≤ 300 := by
  unfold greatO9 at h
  rw [Bool.or_eq_false_iff] at h
  have h2 := h.2
  rw [List.any_eq_false] at h2
  have := h2 o ho
  unfold longO9 at this
  simp at this
  exact this

set_option maxRecDepth 10000 in
set_option maxHeartbeats 2000000 in
theorem bgreat_any (w : World) (A : Option Addr) (l : List Op9) (n cap B : Nat) (hn : l.length = n) (hA : SR w B A 21 (l.map op9C) cap) (hB : B ≤ w.heap.size) (hl : ∀ o ∈ l, op9W o) :
    Calls Tryd.prog 20 #[.slice A n cap] w fun e w' => e = .returned (.bool (greatO9 l)) ∧ w.grownBy w' none := by
  by_cases h0 : 60 < n
  · have t0 : decide ((60 : Int) < (n : Int)) = true := decide_eq_true (by omega)
    have hg : greatO9 l = true := by unfold greatO9; rw [hn, decide_eq_true h0]; rfl
    rw [hg]
    clear h0 hA hB hl hg hn
    go_enter Tryd.func20, Tryd.ntmps20
    go_wp2
    go_ret
    exact ⟨rfl, World.grownBy.refl _ _⟩
  · have t0 : decide ((60 : Int) < (n : Int)) = false := decide_eq_false (by omega)
    have hg : greatO9 l = l.any longO9 := by unfold greatO9; rw [hn, decide_eq_false h0]; rfl
    rw [hg]
    have HN := Lib.hid hn
    have HA := Lib.hid hA
    have HB := Lib.hid hB
    have HL := Lib.hid hl
    have N0 := Lib.hid h0
    clear h0 hA hB hl hg hn
    go_enter Tryd.func20, Tryd.ntmps20
    go_wp2
    clear t0
    go_loopw [10] (fun v wr => ∃ k : Nat, k ≤ n ∧ v = .int .i64 k ∧ (l.take k).any longO9 = false ∧ w.grownBy wr none) (fun v _ => n - (intOf v).toNat)
    case atStart => exact ⟨0, Nat.zero_le _, rfl, rfl, World.grownBy.refl _ _⟩
    case round =>
      obtain ⟨k, hk, rfl, hany, hW⟩ := hrel
      have HW := Lib.hid hW
      have hn0 := N0.out
      by_cases hlt : k < n
      · obtain ⟨o, ho⟩ : ∃ o, o = l[k]'(by rw [HN.out]; exact hlt) := ⟨_, rfl⟩
        obtain ⟨ab, ao, hAe, hab, hcells⟩ := HA.out.elem (k := k) (by rw [List.length_map, HN.out]; exact hlt)
        have HOW := Lib.hid (show op9W o by rw [ho]; exact HL.out _ (List.getElem_mem _))
        have hce : (l.map op9C)[k]'(by rw [List.length_map, HN.out]; exact hlt) = op9C o := by rw [List.getElem_map, ho]
        rw [hce] at hcells
        have HCELL := Lib.hid (show ∀ j v, (op9C o)[j]? = some v → wr.cell? ⟨ab, ao + 21 * k + j, none⟩ = some v from fun j v hj => ((below_of_none HW.out).cell (p := ⟨ab, _, none⟩) (Nat.lt_of_lt_of_le hab HB.out)).trans (hcells j v hj))
        have HNX := Lib.hid (show (l.take (k + 1)).any longO9 = longO9 o by rw [any_take9 (by rw [HN.out]; exact hlt), hany, ho]; rfl)
        have HMEM := Lib.hid (show o ∈ l by rw [ho]; exact List.getElem_mem _)
        subst hAe
        clear hW hce hcells ho hab hany
        have HB1 := Lib.hid (CB.new wr 53 zeroO9)
        by_cases h300 : 300 < o.2.1.length
        · have d1 : decide ((300 : Int) < (o.2.1.length : Int)) = true := decide_eq_true (by omega)
          have HE := Lib.hid (show l.any longO9 = true from List.any_eq_true.2 ⟨o, HMEM.out, decide_eq_true h300⟩)
          clear h300
          have TK0 := Lib.hid True.intro
          go_wp2_with (first
            | (have hx := TK0; clear hx TK0; refine wpList_loadX (p := op9C o) aggO9 rfl (.tmp 12) rfl (b := ab) (off := ao + 21 * k) HCELL.out (op9C_len HOW.out) (by first | rfl | go_simp) ?_; have TK1 := Lib.hid True.intro)
            | (have hx := TK1; clear hx TK1; refine wpList_allocC zeroO9_run rfl rfl ?_; have TK2 := Lib.hid True.intro)
            | (have hx := TK2; clear hx TK2; refine wpList_storeC (off := 0) (p := op9C o) aggO9.hi rfl (.tmp 4) (.tmp 13) rfl (.agg (op9C o).toArray) rfl (op9C_one o) HB1.out (op9C_len HOW.out) (by rw [zeroO9_length]; omega) (by first | rfl | go_simp) (by first | rfl | go_simp) ?_; intro w2 h2 g2; rw [over_all _ _ (Nat.le_of_eq (by rw [zeroO9_length, op9C_len HOW.out]))] at h2; have q0 := h2.at_ (op9C_name o); have W2 := Lib.hid (none_new (grown_trans' HW.out (grown_alloc wr (.cells zeroO9.toArray 53) none)) g2 HW.out.size); clear h2 g2))
          go_ret
          rw [HE.out]
          exact ⟨rfl, W2.out⟩
        · have d1 : decide ((300 : Int) < (o.2.1.length : Int)) = false := decide_eq_false (by omega)
          have HE := Lib.hid (show longO9 o = false from decide_eq_false h300)
          clear h300
          have TK0 := Lib.hid True.intro
          go_wp2_with (first
            | (have hx := TK0; clear hx TK0; refine wpList_loadX (p := op9C o) aggO9 rfl (.tmp 12) rfl (b := ab) (off := ao + 21 * k) HCELL.out (op9C_len HOW.out) (by first | rfl | go_simp) ?_; have TK1 := Lib.hid True.intro)
            | (have hx := TK1; clear hx TK1; refine wpList_allocC zeroO9_run rfl rfl ?_; have TK2 := Lib.hid True.intro)
            | (have hx := TK2; clear hx TK2; refine wpList_storeC (off := 0) (p := op9C o) aggO9.hi rfl (.tmp 4) (.tmp 13) rfl (.agg (op9C o).toArray) rfl (op9C_one o) HB1.out (op9C_len HOW.out) (by rw [zeroO9_length]; omega) (by first | rfl | go_simp) (by first | rfl | go_simp) ?_; intro w2 h2 g2; rw [over_all _ _ (Nat.le_of_eq (by rw [zeroO9_length, op9C_len HOW.out]))] at h2; have q0 := h2.at_ (op9C_name o); have W2 := Lib.hid (none_new (grown_trans' HW.out (grown_alloc wr (.cells zeroO9.toArray 53) none)) g2 HW.out.size); clear h2 g2))
          go_roundw
          case rel => exact ⟨k + 1, by omega, by go_num, by rw [HNX.out, HE.out], W2.out⟩
          case measure => simp [intOf]; omega
      · have HE := Lib.hid (show l.any longO9 = false by
          rw [show k = n by omega, ← HN.out, List.take_length] at hany
          exact hany)
        clear hW hany
        go_wp2
        go_ret
        rw [HE.out]
        exact ⟨rfl, HW.out⟩
end Go.Proofs.YtejmbabeniekhaaDoor
