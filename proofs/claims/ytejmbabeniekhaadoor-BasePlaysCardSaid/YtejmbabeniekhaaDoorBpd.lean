/- The walk of the document's Put (base), a new name. -/
import Derived.Test.YtejmbabeniekhaaDoorBpc
import Derived.Laws.Cover1
namespace Go.Proofs.YtejmbabeniekhaaDoor
open Go.RowKit Go.Maps

/-- What the loop of Put has put together, k entries looked at. -/
def Prt (E : List En) (e : En) (k : Nat) (d : Bool) (o : List En) : Prop :=
  (d = false ∧ o = E.take k ∧ ∀ j x, E[j]? = some x → j < k → ¬ nmE e < nmE x) ∨
  (d = true ∧ ∃ i, i < k ∧ o = E.take i ++ e :: (E.drop i).take (k - i) ∧ (∀ j x, E[j]? = some x → j < i → ¬ nmE e < nmE x) ∧ ∀ x, E[i]? = some x → nmE e < nmE x)
section
variable {E o : List En} {e x : En} {k : Nat}
theorem Prt.start (E : List En) (e : En) : Prt E e 0 false [] := .inl ⟨rfl, rfl, fun j x _ h => by omega⟩
theorem Prt.pass (h : Prt E e k false o) (hx : E[k]? = some x) (hn : ¬ nmE e < nmE x) : Prt E e (k + 1) false (o ++ [x]) := by
  rcases h with ⟨-, rfl, h⟩ | ⟨h, -⟩
  · refine .inl ⟨rfl, ?_, fun j y hy hj => ?_⟩
    · rw [List.take_add_one, hx]
      rfl
    · by_cases e1 : j = k
      · subst e1
        have := hx.symm.trans hy
        injection this with this
        subst this
        exact hn
      · exact h j y hy (by omega)
  · cases h
theorem Prt.put (h : Prt E e k false o) (hx : E[k]? = some x) (hl : nmE e < nmE x) : Prt E e (k + 1) true ((o ++ [e]) ++ [x]) := by
  rcases h with ⟨-, rfl, h⟩ | ⟨h, -⟩
  · refine .inr ⟨rfl, k, by omega, ?_, h, fun y hy => ?_⟩
    · obtain ⟨hk, hxe⟩ := List.getElem?_eq_some_iff.1 hx
      rw [show k + 1 - k = 1 by omega, List.drop_eq_getElem_cons hk, hxe]
      simp
    · have := hx.symm.trans hy
      injection this with this
      subst this
      exact hl
  · cases h
theorem Prt.on (h : Prt E e k true o) (hx : E[k]? = some x) : Prt E e (k + 1) true (o ++ [x]) := by
  rcases h with ⟨h, -⟩ | ⟨-, i, hi, rfl, h1, h2⟩
  · cases h
  · refine .inr ⟨rfl, i, by omega, ?_, h1, h2⟩
    rw [List.append_assoc, List.cons_append, show k + 1 - i = (k - i) + 1 by omega, List.take_add_one, List.getElem?_drop, show i + (k - i) = k by omega, hx]
    rfl
theorem Prt.done (h : Prt E e k true o) (hk : k = E.length) : InsR nmE E e o := by
  rcases h with ⟨h, -⟩ | ⟨-, i, hi, rfl, h1, h2⟩
  · cases h
  · exact ⟨i, by omega, by rw [List.take_of_length_le (l := E.drop i) (by rw [List.length_drop]; omega)], h1, h2⟩
theorem Prt.last (h : Prt E e k false o) (hk : k = E.length) : InsR nmE E e (o ++ [e]) := by
  rcases h with ⟨-, rfl, h⟩ | ⟨h, -⟩
  · subst hk
    refine ⟨E.length, Nat.le_refl _, ?_, h, fun x hx => ?_⟩
    · rw [List.drop_length]
    · rw [List.getElem?_eq_none (Nat.le_refl _)] at hx
      cases hx
  · cases h
theorem Prt.len {d : Bool} (h : Prt E e k d o) : o.length ≤ k + 1 := by
  rcases h with ⟨-, rfl, -⟩ | ⟨-, i, hi, rfl, -, -⟩
  · rw [List.length_take]; omega
  · rw [List.length_append, List.length_cons, List.length_take, List.length_take, List.length_drop]; omega
end
theorem grown_drewB (w : World) (q : Nat) : w.grownBy (World.drewN w q) none := ⟨rfl, rfl, rfl, Nat.le_refl _, fun _ _ _ => rfl⟩
theorem ls_lt {w : World} {B m : Nat} {E : List En} (h : LS w B m E) : m < w.heap.size := by
  obtain ⟨-, ⟨v, h2, -⟩, -⟩ := h
  exact h2.lt
theorem InsR.len {E out : List En} {e : En} (h : InsR nmE E e out) : out.length = E.length + 1 := by rw [h.perm.length_eq, List.length_append]; rfl
theorem InsR.ok {E out : List En} {e : En} (h : InsR nmE E e out) (he : enOk e) (hE : ∀ x ∈ E, enOk x) : ∀ x ∈ out, enOk x := fun x hx => by
  rcases List.mem_append.1 (h.perm.mem_iff.1 hx) with hx | hx
  · exact hE x hx
  · rw [List.mem_singleton.1 hx]; exact he
theorem szLE : (Tryd.prog.info? 45).map (·.size) = some 1 := by kernel_rfl
/-- An element, where it lies, in all worlds to come. -/
theorem ls_fix {w : World} {B m gw : Nat} {E : List En} {i : Nat} {x : En} {cs : List Value} (h : LS w B m E) (hx : E[i]? = some x) (hc : CB w gw 51 cs) : ∃ ab ao cap, (∀ w', w.grownBy w' none → CB w' m 47 [.slice (some ⟨ab, ao, none⟩) E.length cap] ∧ (∀ j v, (enC x)[j]? = some v → w'.cell? ⟨ab, ao + i * 20 + j, none⟩ = some v) ∧ CB w' gw 51 cs) ∧ i < E.length ∧ E.length ≤ 16 ∧ enOk x := by
  obtain ⟨A, cap, hb, -, hs⟩ := h.open_
  obtain ⟨hi, hxe⟩ := List.getElem?_eq_some_iff.1 hx
  obtain ⟨ab, ao, rfl, hlt, hcl⟩ := hs.elem (k := i) (by rw [List.length_map]; exact hi)
  refine ⟨ab, ao, cap, fun w' hg => ⟨hb.kept hg, fun j v hj => ?_, hc.kept hg⟩, hi, h.2.2.2, h.2.2.1 x (List.mem_of_getElem? hx)⟩
  rw [(below_of_none hg).cell (p := ⟨ab, _, none⟩) hlt, Nat.mul_comm]
  exact hcl j v (by rw [List.getElem_map, hxe]; exact hj)

set_option maxRecDepth 10000 in
set_option maxHeartbeats 2000000 in
theorem refPut_new (w : World) (B m : Nat) (E : List En) (h : LS w B m E) (e : En) (he : enOk e) (hr : rightE e = true) (ha : atS nmE E e.1 = none) (hl : E.length < 16) :
    Calls Tryd.prog 25 #[.pointer (some ⟨m, 0, none⟩), .agg (enC e).toArray] w fun x w' => PutL w B m E e x w' := by
  obtain ⟨hp, d1, d2, d3, d4⟩ := right_parts hr
  have B0 := Lib.hid (CB.new w 51 (enC e))
  have G0 := Lib.hid (grown_alloc w (.cells (enC e).toArray 51) none)
  have q1 := B0.out.at_ (enC_name e)
  have HLI := Lib.hid (enC_life he.lk)
  have HFL := Lib.hid (enC_flags he.lk)
  have HLN := Lib.hid he.ln
  have S00 := Lib.hid (h.none G0.out)
  have HP := Lib.hid hp
  have HR := Lib.hid hr
  have HAN := Lib.hid ha
  have HEO := Lib.hid he
  have HS := Lib.hid h
  have HLE := Lib.hid (enC_length he.lk)
  have HNAME := Lib.hid (show ∀ x ∈ E, nmE x ≠ nmE e from fun x hx => atS_none.1 ha x hx)
  have HA := Lib.hid (show atI (atS nmE E e.1) = -1 by rw [ha]; rfl)
  obtain ⟨n, hn⟩ : ∃ n, E.length = n := ⟨_, rfl⟩
  have HN := Lib.hid hn
  have HN16 := Lib.hid (show n < 16 by omega)
  have dn : decide ((16 : Int) ≤ (n : Int)) = false := decide_eq_false (by omega)
  obtain ⟨A0, cap0, hcb, -, -⟩ := S00.out.open_
  rw [hn] at hcb
  have HCB := Lib.hid hcb
  clear h hp hr he ha hl hn hcb
  go_enter Tryd.func25, Tryd.ntmps25
  go_wp2_with (first
    | (go_at_call 58; refine (refNamedB_any ⟨e.1.toArray⟩ e.1 rfl _ (Nat.le_trans HLN.out (by omega))).mono ?_; rintro r w1 ⟨rfl, g1⟩; rw [HP.out]; have G1 := Lib.hid (grown_trans' G0.out g1); have B1 := Lib.hid (B0.out.kept g1); have S1 := Lib.hid (S00.out.none g1); have q2 := B1.out.at_ HLI.out; have q3 := B1.out.at_ HFL.out; have q4 := B1.out.at_ (enC_name e); have HCB1 := Lib.hid (HCB.out.kept g1); have q5 := HCB1.out.at_ (i := 0) (v := .slice A0 n cap0) rfl; clear g1 q1)
    | (go_at_call 55; refine (at_is _ B m E S1.out e.1 (-1) HA.out).mono ?_; rintro r wn ⟨rfl, rfl⟩))
  clear q2 q3 q4 q5 dn
  have SZ := Lib.hid S1.out
  go_loopw [6, 7, 8] (fun ov dv iv wr => ∃ (k : Nat) (d : Bool) (o : List En), k ≤ n ∧ iv = .int .i64 k ∧ dv = .bool d ∧ Prt E e k d o ∧ RowX wr wn.heap.size 51 20 ov (o.map enC) ∧ wn.grownBy wr none) (fun _ _ iv _ => n - (intOf iv).toNat)
  case atStart => exact ⟨0, false, [], Nat.zero_le _, rfl, rfl, Prt.start E e, RowX.new0 _ _ _ _ (Nat.le_refl _), grown_alloc _ _ _⟩
  case round =>
    obtain ⟨k, d, o, hk, rfl, rfl, hprt, hrow, hW⟩ := hrel
    have HW := Lib.hid hW
    have ROW := Lib.hid hrow
    have PRT := Lib.hid hprt
    have hn0 := HN16.out
    have HLO := Lib.hid (show o.length ≤ 17 by have := hprt.len; omega)
    have HLR := Lib.hid (show (o.map enC).length ≤ 1000000000 by rw [List.length_map]; have := HLO.out; omega)
    clear hW hrow hprt
    by_cases hlt : k < n
    · have hlti : (k : Int) < (n : Int) := by omega
      have hkE : k < E.length := by rw [HN.out]; exact hlt
      obtain ⟨x, hx⟩ : ∃ x, E[k]? = some x := ⟨_, List.getElem?_eq_getElem hkE⟩
      have HX := Lib.hid hx
      obtain ⟨ab, ao, cap, hfix, -, -, hxo⟩ := ls_fix S1.out hx B1.out
      rw [HN.out] at hfix
      have FIX := Lib.hid hfix
      have HLX := Lib.hid (enC_length hxo.lk)
      have hxn : x.1 ≠ e.1 := HNAME.out x (List.mem_of_getElem? hx)
      have q0 := (FIX.out _ HW.out).1.at_ (i := 0) (v := .slice (some ⟨ab, ao, none⟩) n cap) rfl
      have q1 := (FIX.out _ HW.out).2.1 0 _ (enC_name x)
      rw [Nat.add_zero] at q1
      have q4 := (FIX.out _ HW.out).2.2.at_ (enC_name e)
      have dq : (x.1 == e.1) = false := by simpa using hxn
      clear hfix hxo hx
      cases d with
      | true =>
          have HMA := Lib.hid (show (o ++ [x]).map enC = o.map enC ++ [enC x] by rw [List.map_append]; rfl)
          go_wp2
          go_quiet (fail)
          have GZ := Lib.hid (grown_trans' HW.out (grown_drewB wr nq))
          have RZ := Lib.hid (ROW.out.none (grown_drewB wr nq))
          clear q0 q1 q4
          generalize World.drewN wr nq = wz at *
          have q5 := (FIX.out _ GZ.out).1.at_ (i := 0) (v := .slice (some ⟨ab, ao, none⟩) n cap) rfl
          have TK0 := Lib.hid True.intro
          go_wp2_with (first
            | (have hx := TK0; clear hx TK0; refine wpList_loadX (p := enC x) aggE rfl (.tmp 87) rfl (b := ab) (off := ao + k * 20) (FIX.out _ GZ.out).2.1 HLX.out (by first | rfl | go_simp) ?_; have TK1 := Lib.hid True.intro)
            | (have hx := TK1; clear hx TK1; refine wpList_lit1 (p := enC x) Tryd.underlying45 aggE.hi zeroE_run HLX.out (by omega) (by omega) rfl (.tmp 88) rfl (by first | rfl | go_simp) ?_; have RL6 := Lib.hid (RZ.out.none (grown_alloc wz (.cells (enC x).toArray 51) none)); have C6 := Lib.hid (CB.new wz 51 (enC x)); have W6 := Lib.hid (grown_trans' GZ.out (grown_alloc wz (.cells (enC x).toArray 51) none)); have TK2 := Lib.hid True.intro)
            | (have hx := TK2; clear hx TK2; refine wpList_appX rowE rfl (.tmp 81) (.tmp 89) rfl (b := wz.heap.size) (off := 0) (c := 1) RL6.out (fun j v hj => by have := C6.out.at_ hj; rwa [Nat.zero_add]) HLX.out (enC_one x) (by first | rfl | go_simp) (by first | rfl | go_simp) HLR.out W6.out.size ?_; intro v7 w7 h5 g5 a5; have RL7 := Lib.hid h5; have W7 := Lib.hid (none_rowB W6.out g5 (fun g hg => (RL6.out.lt g hg).1)); clear h5 g5 a5; have TK3 := Lib.hid True.intro))
          go_roundw
          case rel => exact ⟨k + 1, true, o ++ [x], by omega, by go_num, rfl, PRT.out.on HX.out, by rw [HMA.out]; exact RL7.out, W7.out⟩
          case measure => simp [intOf]; omega
      | false =>
        by_cases hls : nmE e < nmE x
        · have dl : Op.bytesLess x.1 e.1 = false := by rw [bytesLess_eq]; exact decide_eq_false (lt_asymmB hls)
          have HLS := Lib.hid hls
          have HMA := Lib.hid (show ((o ++ [e]) ++ [x]).map enC = (o.map enC ++ [enC e]) ++ [enC x] by rw [List.map_append, List.map_append]; rfl)
          have HLR2 := Lib.hid (show (o.map enC ++ [enC e]).length ≤ 1000000000 by rw [List.length_append, List.length_map]; have := HLO.out; simp; omega)
          clear hls hxn
          go_wp2
          go_quiet (fail)
          have GZ := Lib.hid (grown_trans' HW.out (grown_drewB wr nq))
          have RZ := Lib.hid (ROW.out.none (grown_drewB wr nq))
          clear q0 q1 q4
          generalize World.drewN wr nq = wz at *
          have q5 := (FIX.out _ GZ.out).1.at_ (i := 0) (v := .slice (some ⟨ab, ao, none⟩) n cap) rfl
          have TK0 := Lib.hid True.intro
          go_wp2_with (first
            | (have hx := TK0; clear hx TK0; refine wpList_loadC (off := 0) (p := enC e) aggE rfl (.tmp 3) rfl (FIX.out _ GZ.out).2.2 (take_all HLE.out) (by rw [HLE.out]; omega) (by first | rfl | go_simp) ?_; have TK1 := Lib.hid True.intro)
            | (have hx := TK1; clear hx TK1; refine wpList_lit1 (p := enC e) Tryd.underlying45 aggE.hi zeroE_run HLE.out (by omega) (by omega) rfl (.tmp 78) rfl (by first | rfl | go_simp) ?_; have RL4 := Lib.hid (RZ.out.none (grown_alloc wz (.cells (enC e).toArray 51) none)); have C4 := Lib.hid (CB.new wz 51 (enC e)); have W4 := Lib.hid (grown_trans' GZ.out (grown_alloc wz (.cells (enC e).toArray 51) none)); have TK2 := Lib.hid True.intro)
            | (have hx := TK2; clear hx TK2; refine wpList_appX rowE rfl (.tmp 77) (.tmp 79) rfl (b := wz.heap.size) (off := 0) (c := 1) RL4.out (fun j v hj => by have := C4.out.at_ hj; rwa [Nat.zero_add]) HLE.out (enC_one e) (by first | rfl | go_simp) (by first | rfl | go_simp) HLR.out W4.out.size ?_; intro v5 w5 h5 g5 a5; have RL5 := Lib.hid h5; have W5 := Lib.hid (none_rowB W4.out g5 (fun g hg => (RL4.out.lt g hg).1)); have q6 := (FIX.out _ W5.out).1.at_ (i := 0) (v := .slice (some ⟨ab, ao, none⟩) n cap) rfl; clear h5 g5 a5; have TK3 := Lib.hid True.intro)
            | (have hx := TK3; clear hx TK3; refine wpList_loadX (p := enC x) aggE rfl (.tmp 87) rfl (b := ab) (off := ao + k * 20) (FIX.out _ W5.out).2.1 HLX.out (by first | rfl | go_simp) ?_; have TK4 := Lib.hid True.intro)
            | (have hx := TK4; clear hx TK4; refine wpList_lit1 (p := enC x) Tryd.underlying45 aggE.hi zeroE_run HLX.out (by omega) (by omega) rfl (.tmp 88) rfl (by first | rfl | go_simp) ?_; have RL6 := Lib.hid (RL5.out.none (grown_alloc w5 (.cells (enC x).toArray 51) none)); have C6 := Lib.hid (CB.new w5 51 (enC x)); have W6 := Lib.hid (grown_trans' W5.out (grown_alloc w5 (.cells (enC x).toArray 51) none)); have TK5 := Lib.hid True.intro)
            | (have hx := TK5; clear hx TK5; refine wpList_appX rowE rfl (.tmp 81) (.tmp 89) rfl (b := w5.heap.size) (off := 0) (c := 1) RL6.out (fun j v hj => by have := C6.out.at_ hj; rwa [Nat.zero_add]) HLX.out (enC_one x) (by first | rfl | go_simp) (by first | rfl | go_simp) HLR2.out W6.out.size ?_; intro v7 w7 h5 g5 a5; have RL7 := Lib.hid h5; have W7 := Lib.hid (none_rowB W6.out g5 (fun g hg => (RL6.out.lt g hg).1)); clear h5 g5 a5; have TK6 := Lib.hid True.intro))
          go_roundw
          case rel => exact ⟨k + 1, true, (o ++ [e]) ++ [x], by omega, by go_num, rfl, PRT.out.put HX.out HLS.out, by rw [HMA.out]; exact RL7.out, W7.out⟩
          case measure => simp [intOf]; omega
        · have dl : Op.bytesLess x.1 e.1 = true := by rw [bytesLess_eq]; exact decide_eq_true (lt_of_not hls (fun q => hxn q.symm))
          have HLS := Lib.hid hls
          have HMA := Lib.hid (show (o ++ [x]).map enC = o.map enC ++ [enC x] by rw [List.map_append]; rfl)
          clear hls hxn
          go_wp2
          go_quiet (fail)
          have GZ := Lib.hid (grown_trans' HW.out (grown_drewB wr nq))
          have RZ := Lib.hid (ROW.out.none (grown_drewB wr nq))
          clear q0 q1 q4
          generalize World.drewN wr nq = wz at *
          have q5 := (FIX.out _ GZ.out).1.at_ (i := 0) (v := .slice (some ⟨ab, ao, none⟩) n cap) rfl
          have TK0 := Lib.hid True.intro
          go_wp2_with (first
            | (have hx := TK0; clear hx TK0; refine wpList_loadX (p := enC x) aggE rfl (.tmp 87) rfl (b := ab) (off := ao + k * 20) (FIX.out _ GZ.out).2.1 HLX.out (by first | rfl | go_simp) ?_; have TK1 := Lib.hid True.intro)
            | (have hx := TK1; clear hx TK1; refine wpList_lit1 (p := enC x) Tryd.underlying45 aggE.hi zeroE_run HLX.out (by omega) (by omega) rfl (.tmp 88) rfl (by first | rfl | go_simp) ?_; have RL6 := Lib.hid (RZ.out.none (grown_alloc wz (.cells (enC x).toArray 51) none)); have C6 := Lib.hid (CB.new wz 51 (enC x)); have W6 := Lib.hid (grown_trans' GZ.out (grown_alloc wz (.cells (enC x).toArray 51) none)); have TK2 := Lib.hid True.intro)
            | (have hx := TK2; clear hx TK2; refine wpList_appX rowE rfl (.tmp 81) (.tmp 89) rfl (b := wz.heap.size) (off := 0) (c := 1) RL6.out (fun j v hj => by have := C6.out.at_ hj; rwa [Nat.zero_add]) HLX.out (enC_one x) (by first | rfl | go_simp) (by first | rfl | go_simp) HLR.out W6.out.size ?_; intro v7 w7 h5 g5 a5; have RL7 := Lib.hid h5; have W7 := Lib.hid (none_rowB W6.out g5 (fun g hg => (RL6.out.lt g hg).1)); clear h5 g5 a5; have TK3 := Lib.hid True.intro))
          go_roundw
          case rel => exact ⟨k + 1, false, o ++ [x], by omega, by go_num, rfl, PRT.out.pass HX.out HLS.out, by rw [HMA.out]; exact RL7.out, W7.out⟩
          case measure => simp [intOf]; omega
    · have hnlt : ¬ ((k : Int) < (n : Int)) := by omega
      have hkn : k = E.length := by rw [HN.out]; omega
      have HKN := Lib.hid hkn
      have hcm := HCB1.out.kept HW.out
      have q0 := hcm.at_ (i := 0) (v := .slice A0 n cap0) rfl
      have HCM := Lib.hid hcm
      clear hkn hcm
      cases d with
      | true =>
        have HI := Lib.hid (PRT.out.done HKN.out)
        obtain ⟨Ao, co, hvo, -, -⟩ := ROW.out.shape
        subst hvo
        go_wp2_with (refine wpList_storeC (off := 0) (p := [.slice Ao (o.map enC).length co]) szLE rfl (.tmp 100) (.tmp 98) rfl (.slice Ao (o.map enC).length co) rfl (by intro u hu; rw [List.mem_singleton.1 hu]; rfl) HCM.out rfl (by simp) (by first | rfl | go_simp) (by first | rfl | go_simp) ?_; intro w9 h9 g9; rw [over_all _ _ (by simp)] at h9; have H9 := Lib.hid h9; have G9 := Lib.hid g9; clear h9 g9)
        go_ret
        refine ⟨o, 0, .inr (.inr (.inr ⟨HR.out, HAN.out, by rw [HN.out]; exact HN16.out, HI.out, rfl⟩)), rfl, ⟨HS.out.1, ⟨_, H9.out, (ROW.out.base_ (Nat.le_trans (Nat.le_of_lt (Nat.lt_of_le_of_lt HS.out.1 (ls_lt HS.out))) G1.out.size)).row G9.out (ROW.out.ne_cells HCM.out (by decide))⟩, HI.out.ok HEO.out HS.out.2.2.1, by rw [HI.out.len, HN.out]; exact HN16.out⟩, .inr ⟨m, HS.out.1, .inl rfl, grown_trans' (grown_some (grown_trans' G1.out HW.out) m) G9.out⟩⟩
      | false =>
        have HI := Lib.hid (PRT.out.last HKN.out)
        have FIX := Lib.hid (show ∀ w', wn.grownBy w' none → True ∧ True ∧ CB w' w.heap.size 51 (enC e) from fun w' hg => ⟨trivial, trivial, B1.out.kept hg⟩)
        have HMA := Lib.hid (show (o ++ [e]).map enC = o.map enC ++ [enC e] by rw [List.map_append]; rfl)
        have GZ := Lib.hid HW.out
        have TK0 := Lib.hid True.intro
        go_wp2_with (first
          | (have hx := TK0; clear hx TK0; refine wpList_loadC (off := 0) (p := enC e) aggE rfl (.tmp 3) rfl (FIX.out _ GZ.out).2.2 (take_all HLE.out) (by rw [HLE.out]; omega) (by first | rfl | go_simp) ?_; have TK1 := Lib.hid True.intro)
          | (have hx := TK1; clear hx TK1; refine wpList_lit1 (p := enC e) Tryd.underlying45 aggE.hi zeroE_run HLE.out (by omega) (by omega) rfl (.tmp 94) rfl (by first | rfl | go_simp) ?_; have RL4 := Lib.hid (ROW.out.none (grown_alloc wr (.cells (enC e).toArray 51) none)); have C4 := Lib.hid (CB.new wr 51 (enC e)); have W4 := Lib.hid (grown_trans' GZ.out (grown_alloc wr (.cells (enC e).toArray 51) none)); have TK2 := Lib.hid True.intro)
          | (have hx := TK2; clear hx TK2; refine wpList_appX rowE rfl (.tmp 93) (.tmp 95) rfl (b := wr.heap.size) (off := 0) (c := 1) RL4.out (fun j v hj => by have := C4.out.at_ hj; rwa [Nat.zero_add]) HLE.out (enC_one e) (by first | rfl | go_simp) (by first | rfl | go_simp) HLR.out W4.out.size ?_; intro v5 w5 h5 g5 a5; have RL5 := Lib.hid h5; have W5 := Lib.hid (none_rowB W4.out g5 (fun g hg => (RL4.out.lt g hg).1)); obtain ⟨Ao, co, hvo, -, -⟩ := h5.shape; subst hvo; have HCM5 := Lib.hid (HCB1.out.kept W5.out); clear h5 g5 a5; have TK3 := Lib.hid True.intro)
          | (have hx := TK3; clear hx TK3; refine wpList_storeC (off := 0) (p := [.slice Ao (o.map enC ++ [enC e]).length co]) szLE rfl (.tmp 100) (.tmp 98) rfl (.slice Ao (o.map enC ++ [enC e]).length co) rfl (by intro u hu; rw [List.mem_singleton.1 hu]; rfl) HCM5.out rfl (by simp) (by first | rfl | go_simp) (by first | rfl | go_simp) ?_; intro w9 h9 g9; rw [over_all _ _ (by simp)] at h9; have H9 := Lib.hid h9; have G9 := Lib.hid g9; clear h9 g9; have TK4 := Lib.hid True.intro))
        go_ret
        refine ⟨o ++ [e], 0, .inr (.inr (.inr ⟨HR.out, HAN.out, by rw [HN.out]; exact HN16.out, HI.out, rfl⟩)), rfl, ⟨HS.out.1, ⟨_, H9.out, by rw [HMA.out]; exact (RL5.out.base_ (Nat.le_trans (Nat.le_of_lt (Nat.lt_of_le_of_lt HS.out.1 (ls_lt HS.out))) G1.out.size)).row G9.out (RL5.out.ne_cells HCM5.out (by decide))⟩, HI.out.ok HEO.out HS.out.2.2.1, by rw [HI.out.len, HN.out]; exact HN16.out⟩, .inr ⟨m, HS.out.1, .inl rfl, grown_trans' (grown_some (grown_trans' G1.out W5.out) m) G9.out⟩⟩
theorem refPut_any (w : World) (B m : Nat) (E : List En) (h : LS w B m E) (e : En) (he : enOk e) :
    Calls Tryd.prog 25 #[.pointer (some ⟨m, 0, none⟩), .agg (enC e).toArray] w fun x w' => PutL w B m E e x w' := by
  cases hr : rightE e with
  | false => exact refPut_wrong w B m E h e he hr
  | true =>
    cases ha : atS nmE E e.1 with
    | some i => exact refPut_known w B m E h e he hr i ha
    | none =>
      by_cases hl : 16 ≤ E.length
      · exact refPut_full w B m E h e he hr ha hl
      · exact refPut_new w B m E h e he hr ha (by omega)
end Go.Proofs.YtejmbabeniekhaaDoor
