/- The walks of ticket's tags, join and Valid. -/
import Derived.Test.YtfpcabfpnekejaaDoorTka
namespace Go.Proofs.YtfpcabfpnekejaaDoor
open Go.RowKit

theorem RI.new (w : World) (t : TypeId) (l : List Int) (n : Nat) (hn : l.length = n) (hm : n ≤ maxLen) (wr : World) (h : CB wr w.heap.size t (icells l)) : RI wr wr.heap.size (some ⟨w.heap.size, 0, none⟩) l n := by
  subst hn
  refine ⟨Nat.le_refl _, hm, .inr ⟨_, rfl, fun k u hu => ⟨h.lt, ?_⟩⟩⟩
  rw [Addr.add_lit, Nat.zero_add]
  exact h.at_ (by rw [icells_at, hu]; rfl)
theorem RI.kept {w w' : World} {B : Nat} {A : Option Addr} {l : List Int} {cap : Nat} (h : RI w B A l cap) (hg : w.grownBy w' none) (hB : B ≤ w.heap.size) : RI w' B A l cap :=
  h.keep fun _ ha => (below_of_none hg).cell (Nat.lt_of_lt_of_le ha hB)
/-- A slice that reads as these tags. -/
def IsI (w : World) (v : Value) (l : List Int) : Prop := ∃ A c, v = .slice A l.length c ∧ RI w w.heap.size A l c
theorem IsI.kept {w w' : World} {v : Value} {l : List Int} (h : IsI w v l) (hg : w.grownBy w' none) : IsI w' v l := by
  obtain ⟨A, c, hv, hr⟩ := h
  exact ⟨A, c, hv, (hr.kept hg (Nat.le_refl _)).more hg.size⟩

theorem gTags_any (w : World) : Calls Tryd.prog 42 #[] w fun e w' => ∃ v, e = .returned v ∧ IsI w' v [21, 22, 23, 24, 25, 26] ∧ w.grownBy w' none := by
  go_enter Tryd.func42, Tryd.ntmps42
  go_wp2
  go_ret
  exact ⟨_, rfl, ⟨_, _, rfl, RI.new w _ [21, 22, 23, 24, 25, 26] 6 rfl (by simp [maxLen]) _ (CB.new w _ (icells [21, 22, 23, 24, 25, 26]))⟩, grown_alloc _ _ _⟩

/-! join -/
theorem fieldInfo : (Tryd.prog.info? 97).map (fun i => (i.zero, i.size, i.bytes)) = some (some (.agg #[.int .i64 0, .slice none 0 0]), 2, 32) := by kernel_rfl
theorem szF : (Tryd.prog.info? 97).map (·.size) = some 2 := by kernel_rfl
theorem run_makeFields (n : Nat) (hn : n ≤ 1000000) (w : World) :
    (Instr.makeSlice 95 (.int .i64 (n : Int)) (.int .i64 (n : Int))).run Tryd.prog w = .ok (.slice (some ⟨w.heap.size, 0, none⟩) n n) (w.alloc (.cells (madeCells #[.int .i64 0, .slice none 0 0] (n * 2)) 97)) := by
  obtain ⟨i0, hi, hz0, hz1, hz2⟩ := info_parts fieldInfo
  have h := run_make (P := Tryd.prog) w 95 97 i0 _ Tryd.underlying95 hi hz0 .i64 .i64 n n (by omega) (Int.le_refl _) (by rw [hz2]; omega) (by omega)
  rw [hz1, Int.toNat_natCast] at h
  exact h
theorem Texts.kept {w w' : World} {B : Nat} {vs : List Value} {ls : List (List UInt8)} (h : Texts w B vs ls) (hg : w.grownBy w' none) (hB : B ≤ w.heap.size) : Texts w' B vs ls :=
  h.keep fun _ ha => (below_of_none hg).cell (Nat.lt_of_lt_of_le ha hB)

theorem over_two (cs : List Value) (x y : Value) (o : Nat) (h : o + 2 ≤ cs.length) : over cs o [x, y] = (cs.set o x).set (o + 1) y := by
  induction o generalizing cs with
  | zero =>
    match cs, h with
    | p :: q :: r, _ => simp [over]
  | succ o ih =>
    match cs, h with
    | p :: r, h =>
      have := ih r (by simp at h; omega)
      simp only [over, List.length_cons, List.length_nil, List.set_cons_succ, List.take_succ_cons, List.drop_succ_cons, List.cons_append] at this ⊢
      exact congrArg (p :: ·) this
/-- The first k fields are laid. -/
def LaidF (fs : List Fd) (us : List Value) (k : Nat) (cs : List Value) : Prop :=
  cs.length = 2 * fs.length ∧ ∀ (j : Nat) (f : Fd) (u : Value), j < k → fs[j]? = some f → us[j]? = some u → cs[2 * j]? = some (.int .i64 f.1) ∧ cs[2 * j + 1]? = some u
theorem LaidF.next {fs : List Fd} {us : List Value} {k : Nat} {cs : List Value} {f : Fd} {u : Value} (h : LaidF fs us k cs) (hk : k < fs.length) (hf : fs[k]? = some f) (hu : us[k]? = some u) :
    LaidF fs us (k + 1) (over cs (k * 2) [.int .i64 f.1, u]) := by
  have hl := h.1
  refine ⟨by rw [over_length _ _ _ (by simp; omega)]; exact hl, fun j g v hj hg hv => ?_⟩
  have e := over_two cs (.int .i64 f.1) u (k * 2) (by omega)
  rw [e]
  by_cases hjk : j = k
  · subst hjk
    rw [hf] at hg
    rw [hu] at hv
    injection hg with hg
    injection hv with hv
    subst hg hv
    refine ⟨?_, ?_⟩
    · rw [List.getElem?_set_ne (by omega), show j * 2 = 2 * j by omega, List.getElem?_set_self (by omega)]
    · rw [show j * 2 + 1 = 2 * j + 1 by omega, List.getElem?_set_self (by simp; omega)]
  · have h2 := h.2 j g v (by omega) hg hv
    refine ⟨?_, ?_⟩
    · rw [List.getElem?_set_ne (by omega), List.getElem?_set_ne (by omega)]; exact h2.1
    · rw [List.getElem?_set_ne (by omega), List.getElem?_set_ne (by omega)]; exact h2.2
theorem LaidF.rf {fs : List Fd} {us : List Value} {cs : List Value} {w : World} {g B : Nat} {t : TypeId} (h : LaidF fs us fs.length cs) (hc : CB w g t cs) (hT : Texts w B us (fs.map (·.2))) (hB : B ≤ w.heap.size) (hm : fs.length ≤ maxLen) :
    RF w w.heap.size (some ⟨g, 0, none⟩) fs fs.length := by
  refine ⟨Nat.le_refl _, hm, .inr ⟨_, rfl, fun k f hf => ⟨hc.lt, ?_⟩⟩⟩
  have hk : k < fs.length := (List.getElem?_eq_some_iff.1 hf).1
  have hul : us.length = fs.length := by rw [hT.1, List.length_map]
  have hu : us[k]? = some us[k] := List.getElem?_eq_getElem (by omega)
  obtain ⟨V, c, hv, hr⟩ := hT.2 k f.2 _ (by rw [List.getElem?_map, hf]; rfl) hu
  obtain ⟨h1, h2⟩ := h.2 k f _ hk hf hu
  rw [Addr.add_lit, Addr.add_lit, Nat.zero_add, Nat.zero_add]
  exact ⟨hc.at_ h1, V, c, by rw [hc.at_ h2, hv], hr.more hB⟩

set_option maxHeartbeats 1000000 in
theorem tjoin_any (TA : Option Addr) (tc gv n : Nat) (fs : List Fd) (us : List Value) (B : Nat) (w : World) (hn : fs.length = n) (hp : 0 < n) (hn2 : n ≤ 1000)
    (hT : RI w w.heap.size TA (fs.map (·.1)) tc) (hU : Texts w B us (fs.map (·.2))) (hB : B ≤ w.heap.size) (hgv : gv < w.heap.size) (hcell : ∀ k u, us[k]? = some u → w.cell? ⟨gv, k, none⟩ = some u)
    (ht : ∀ f ∈ fs, -9223372036854775808 ≤ f.1 ∧ f.1 ≤ 9223372036854775807) (hs : tot fs ≤ 1000000000) :
    Calls Tryd.prog 41 #[.slice TA n tc, .slice (some ⟨gv, 0, none⟩) n n] w fun e w' => ∃ v, e = .returned (.tuple #[v, .int .i64 (joinOf fs []).2]) ∧ IsB w' v (joinOf fs []).1 ∧ w.grownBy w' none := by
  have hmk := run_makeFields n (by omega)
  obtain ⟨bT, oT, rfl, hbT, hTc⟩ := hT.open_ (by rw [List.length_map]; omega)
  have HN := Lib.hid hn
  have HN2 := Lib.hid hn2
  have HU := Lib.hid hU
  have HB := Lib.hid hB
  have HGV := Lib.hid hgv
  have HC := Lib.hid hcell
  have HTT := Lib.hid ht
  have HS := Lib.hid hs
  have HBT := Lib.hid hbT
  have HTC := Lib.hid hTc
  have hul : us.length = n := by rw [hU.1, List.length_map, hn]
  have HUL := Lib.hid hul
  have HC0 := Lib.hid (show CB (w.alloc (.cells (madeCells #[.int .i64 0, .slice none 0 0] (n * 2)) 97)) w.heap.size 97 (madeCells #[.int .i64 0, .slice none 0 0] (n * 2)).toList from by rw [CB, Array.toArray_toList]; exact heap_alloc_new w _)
  have HL0 := Lib.hid (show LaidF fs us 0 (madeCells #[.int .i64 0, .slice none 0 0] (n * 2)).toList from ⟨by rw [Array.length_toList, size_madeCells, hn]; omega, fun j f u hj => by omega⟩)
  have HG0 := Lib.hid (grown_alloc w (.cells (madeCells #[.int .i64 0, .slice none 0 0] (n * 2)) 97) none)
  clear hT hU hB hgv hcell ht hs hn hbT hTc hul
  go_enter Tryd.func41, Tryd.ntmps41
  go_wp2
  clear hmk
  go_loopw [14] (fun i wr => ∃ (k : Nat) (cs : List Value), i = .int .i64 k ∧ k ≤ n ∧ CB wr w.heap.size 97 cs ∧ LaidF fs us k cs ∧ w.grownBy wr none) (fun i _ => n - (intOf i).toNat)
  case atStart => exact ⟨0, _, rfl, Nat.zero_le _, HC0.out, HL0.out, HG0.out⟩
  case round =>
    obtain ⟨k, cs, rfl, hk, hc, hl, hg⟩ := hrel
    by_cases hlt : k < n
    · obtain ⟨f, hf⟩ : ∃ f, fs[k]? = some f := ⟨_, List.getElem?_eq_getElem (by rw [HN.out]; exact hlt)⟩
      obtain ⟨u, hu⟩ : ∃ u, us[k]? = some u := ⟨_, List.getElem?_eq_getElem (by rw [HUL.out]; exact hlt)⟩
      obtain ⟨V, c, rfl, -⟩ := HU.out.2 k f.2 u (by rw [List.getElem?_map, hf]; rfl) hu
      have c1 : wr.cell? ⟨bT, oT + k, none⟩ = some (.int .i64 f.1) := by
        rw [(below_of_none hg).cell (p := ⟨bT, oT + k, none⟩) HBT.out, HTC.out k (by rw [List.length_map, HN.out]; exact hlt)]
        rw [List.getElem_map, (List.getElem?_eq_some_iff.1 hf).2]
      have c2 : wr.cell? ⟨gv, k, none⟩ = some (.slice V f.2.length c) := by
        rw [(below_of_none hg).cell (p := ⟨gv, k, none⟩) HGV.out]
        exact HC.out k _ hu
      have HL2 := Lib.hid (hl.next (by rw [HN.out]; exact hlt) hf hu)
      have HCL := Lib.hid (show k * 2 + 2 ≤ cs.length by rw [hl.1, HN.out]; omega)
      have HCr := Lib.hid hc
      have HGr := Lib.hid hg
      have HLT := Lib.hid hlt
      have hki : (k : Int) < (n : Int) := by omega
      have hfl := HTT.out f (List.mem_of_getElem? hf)
      have HFL := Lib.hid hfl
      clear hc hl hg hf hu hk hlt hfl
      generalize f.1 = t at *
      go_wp2_with (refine wpList_storeC (off := k * 2) (p := [.int .i64 t, .slice V f.2.length c]) szF rfl (.tmp 27) (.tmp 26) rfl _ rfl (fun u hu => by simp only [List.mem_cons, List.not_mem_nil, or_false] at hu; rcases hu with rfl | rfl <;> rfl) HCr.out rfl HCL.out (by first | rfl | go_simp) rfl ?_; intro w6 h6 g6; have H6 := Lib.hid h6; have G6 := Lib.hid (none_new HGr.out g6 (Nat.le_refl _)); clear h6 g6)
      go_roundw
      case rel => exact ⟨k + 1, _, by go_num, by have := HLT.out; omega, H6.out, HL2.out, G6.out⟩
      case measure => have := HLT.out; first | (simp [intOf]; done) | (simp [intOf]; omega)
    · obtain rfl : k = n := by omega
      have HRF := Lib.hid (show RF wr wr.heap.size (some ⟨w.heap.size, 0, none⟩) fs k by
        have h1 := LaidF.rf (fs := fs) (us := us) (cs := cs) (w := wr) (g := w.heap.size) (B := B) (by rw [HN.out]; exact hl) hc (HU.out.kept hg HB.out) (Nat.le_trans HB.out hg.size) (by rw [HN.out]; unfold maxLen; have := HN2.out; omega)
        rwa [HN.out] at h1)
      have HGr := Lib.hid hg
      have HLK := Lib.hid hlt
      clear hc hl hg hk hlt
      go_wp2_with (go_at_call 52; refine (join_at (some ⟨w.heap.size, 0, none⟩) fs k k wr HN.out HRF.out HTT.out HS.out).mono ?_; rintro e w8 ⟨v8, rfl, o8, b8⟩; have O8 := Lib.hid o8.isB; have G8 := Lib.hid (grown_trans' HGr.out (none_of_below b8 (Nat.le_refl _))); clear o8 b8)
      go_ret2
      exact ⟨_, rfl, O8.out, G8.out⟩
end Go.Proofs.YtfpcabfpnekejaaDoor
