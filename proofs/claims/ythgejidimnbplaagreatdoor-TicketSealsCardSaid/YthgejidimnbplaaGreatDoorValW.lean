/- The walk of Values of tlv. -/
import Derived.Test.YthgejidimnbplaaGreatDoorValL
import Derived.Deep.QuietTactic
import Derived.BigQuiet
namespace Go.Proofs.YthgejidimnbplaaGreatDoor
open Go.RowKit

theorem tag_any (b1 b2 : Nat) (F T : Option Addr) (fs : List Fd) (ts : List Int) (fn fc tn tc k : Nat) (w : World) (hfn : fs.length = fn) (htn : ts.length = tn) (h1 : w.cell? ⟨b1, 0, none⟩ = some (.slice F fn fc)) (h2 : w.cell? ⟨b2, 0, none⟩ = some (.slice T tn tc)) {B : Nat} (hF : RF w B F fs fc) (hT : RI w B T ts tc) (hk : k < fn) (hkt : k < tn) (c : Bool)
    {f : Fd} {t : Int} (hf : fs[k]? = some f) (ht : ts[k]? = some t) (hc : c = (f.1 == t)) :
    Calls Tryz.prog 60 #[.int .i64 (k : Int), .pointer (some ⟨b1, 0, none⟩), .pointer (some ⟨b2, 0, none⟩)] w fun e w' => e = .returned (.bool c) ∧ Below w.heap.size w w' := by
  subst hfn htn
  obtain ⟨fb, fo, rfl, _, hfc⟩ := hF.open_ (by omega)
  obtain ⟨tb, to, rfl, _, htc⟩ := hT.open_ (by omega)
  have k1 := (hfc k _ hf).1
  have k2 := htc k hkt
  have ht' : ts[k] = t := by rw [List.getElem?_eq_getElem hkt] at ht; injection ht
  rw [ht'] at k2
  have l1 : fs.length ≤ 9223372036854775807 := Nat.le_trans hF.1 hF.2.1
  have hki : (k : Int) < (fs.length : Int) := by omega
  have hkj : (k : Int) < (ts.length : Int) := by omega
  have HE := Lib.hid hc
  clear hc hfc htc hF hT hf ht ht'
  obtain ⟨x, y⟩ := f
  simp only at k1
  go_enter Tryz.func60, Tryz.ntmps60
  go_wp2
  go_quiet (fail)
  go_wp2
  go_ret
  exact ⟨by rw [HE.out]; rfl, ⟨rfl, rfl, rfl, Nat.le_refl _, fun _ _ => rfl⟩⟩

theorem textsInfo : (Tryz.prog.info? 30).map (fun i => (i.zero, i.size, i.bytes)) = some (some (.slice none 0 0), 1, 24) := by kernel_rfl
theorem run_makeTexts (n : Nat) (hn : n ≤ 1000000) (w : World) :
    (Instr.makeSlice 65 (.int .i64 (n : Int)) (.int .i64 (n : Int))).run Tryz.prog w = .ok (.slice (some ⟨w.heap.size, 0, none⟩) n n) (w.alloc (.cells (madeCells #[.slice none 0 0] n) 30)) := by
  obtain ⟨i0, hi, hz0, hz1, hz2⟩ := info_parts textsInfo
  have h := run_make (P := Tryz.prog) w 65 30 i0 _ Tryz.underlying65 hi hz0 .i64 .i64 n n (by omega) (Int.le_refl _) (by rw [hz2]; omega) (by omega)
  rw [hz1, Int.toNat_natCast, Nat.mul_one] at h
  exact h

theorem IsS.below {w w' : World} {v : Value} {ls : List (List UInt8)} (h : IsS w v ls) (hb : Below w.heap.size w w') : IsS w' v ls := by
  obtain ⟨V, c, rfl, hr⟩ := h
  exact ⟨V, c, rfl, (hr.below hb).more hb.size⟩

/-- The rounds of Values: the first k values are laid. -/
def ValRel (w1 : World) (F : Option Addr) (fs : List Fd) (fc : Nat) (ts : List Int) (vs : List Value) (k : Nat) (cs : Array Value) (wr : World) : Prop :=
  wr.heap[w1.heap.size + 1]? = some (.cells cs 30 (0, 0)) ∧ cs.size = fs.length ∧ (∀ (j : Nat) (u : Value), j < k → vs[j]? = some u → cs[j]? = some u) ∧
    ((w1.alloc (.cells #[.slice F fs.length fc] 74)).alloc (.cells (madeCells #[.slice none 0 0] fs.length) 30)).grownBy wr (some (w1.heap.size + 1)) ∧
    ∀ (j : Nat) (f : Fd) (t : Int), j < k → fs[j]? = some f → ts[j]? = some t → f.1 = t
theorem ValRel.start (w1 : World) (F : Option Addr) (fs : List Fd) (fc : Nat) (ts : List Int) (vs : List Value) :
    ValRel w1 F fs fc ts vs 0 (madeCells #[.slice none 0 0] fs.length) ((w1.alloc (.cells #[.slice F fs.length fc] 74)).alloc (.cells (madeCells #[.slice none 0 0] fs.length) 30)) :=
  ⟨heap_alloc2_new _ _ _, size_madeCells _ _, fun j u hj => by omega, World.grownBy.refl _ _, fun j f t hj => by omega⟩
section
variable {w1 wr : World} {F : Option Addr} {fs : List Fd} {fc : Nat} {ts : List Int} {vs : List Value} {k : Nat} {cs : Array Value}
theorem ValRel.low (h : ValRel w1 F fs fc ts vs k cs wr) : Below (w1.heap.size + 1) ((w1.alloc (.cells #[.slice F fs.length fc] 74)).alloc (.cells (madeCells #[.slice none 0 0] fs.length) 30)) wr :=
  ⟨h.2.2.2.1.os, h.2.2.2.1.tape, h.2.2.2.1.output, h.2.2.2.1.size, fun i hi => h.2.2.2.1.block i (by simp; omega) (fun e => by injection e; omega)⟩
theorem ValRel.below (h : ValRel w1 F fs fc ts vs k cs wr) : Below w1.heap.size w1 wr :=
  (((Below.refl _ _).alloc (Nat.le_refl _) _).alloc (by simp) _).trans (h.low.mono (Nat.le_succ _))
theorem ValRel.box (h : ValRel w1 F fs fc ts vs k cs wr) : wr.cell? ⟨w1.heap.size, 0, none⟩ = some (.slice F fs.length fc) := by
  rw [h.low.cell (p := ⟨w1.heap.size, 0, none⟩) (by simp), cell_of_row _ w1.heap.size 0 _ _ _ (heap_alloc2_old w1 _ _)]
  rfl
theorem ValRel.size (h : ValRel w1 F fs fc ts vs k cs wr) : w1.heap.size + 2 ≤ wr.heap.size := by
  have := h.2.2.2.1.size
  simpa using this
theorem ValRel.next {w2 : World} {u : Value} {f : Fd} {t : Int} (h : ValRel w1 F fs fc ts vs k cs wr) (hb : Below wr.heap.size wr w2) (hu : vs[k]? = some u) (hk : k < fs.length) (hf : fs[k]? = some f) (ht : ts[k]? = some t) (he : f.1 = t) :
    ValRel w1 F fs fc ts vs (k + 1) (cs.setIfInBounds k u) (w2.setCell ⟨w1.heap.size + 1, k, none⟩ u) := by
  have hs := h.size
  obtain ⟨h1, h2, h3, h4, h5⟩ := h
  have h1' := (hb.block _ (show w1.heap.size + 1 < wr.heap.size by omega)).trans h1
  refine ⟨heap_setCell_same w2 _ k cs _ u h1', by simpa using h2, fun j x hj hx => ?_, (h4.trans (grown_of_below hb _)).trans (grown_set w2 _ k u), fun j f' t' hj hf' ht' => ?_⟩
  · by_cases e : j = k
    · subst e
      rw [hu] at hx
      injection hx with hx
      subst hx
      simp [h2, hk]
    · rw [Array.getElem?_setIfInBounds_ne (by omega)]
      exact h3 j x (by omega) hx
  · by_cases e : j = k
    · subst e
      rw [hf] at hf'
      rw [ht] at ht'
      injection hf' with hf'
      injection ht' with ht'
      subst hf' ht'
      exact he
    · exact h5 j f' t' (by omega) hf' ht'
end

set_option maxHeartbeats 1000000 in
theorem values_any (A : Option Addr) (l : List UInt8) (cap n : Nat) (T : Option Addr) (ts : List Int) (tc m : Nat) (w : World) (hn : l.length = n) (hm : ts.length = m) (h : RB w w.heap.size A l cap) (hT : RI w w.heap.size T ts tc) (hl : n ≤ 1000000) :
    Calls Tryz.prog 45 #[.slice A n cap, .slice T m tc] w fun e w' => ∃ v, e = .returned (.tuple #[v, .int .i64 (valuesOf l ts).2]) ∧ IsS w' v (valuesOf l ts).1 ∧ Below w.heap.size w w' := by
  subst hn hm
  have H := Lib.hid h
  have HT := Lib.hid hT
  clear h hT
  have hmf : ∀ (fn : Fn) (first cap : Array Value) (w : World), (Instr.makeFunc fn first cap).run Tryz.prog w = .ok (.func fn first cap) w := fun _ _ _ _ => rfl
  have hSp := fun W (hW : RB W W.heap.size A l cap) => split_any A l cap l.length W rfl hW (by omega)
  have HSp := Lib.hid hSp
  clear hSp
  by_cases he : (splitOf l).2 = 0
  · have hez : ((splitOf l).2 == 0) = true := by rw [he]; rfl
    by_cases hlen : (splitOf l).1.length = ts.length
    · obtain ⟨fs, hfs⟩ : ∃ fs, fs = (splitOf l).1 := ⟨_, rfl⟩
      rw [← hfs] at hlen
      have hfl : fs.length ≤ 1000000 := by rw [hfs]; have := splitF_len l.length l []; simp at this; unfold splitOf; omega
      have hmk := run_makeTexts fs.length hfl
      have HE := Lib.hid he
      have HFS := Lib.hid hfs
      have hle : ((fs.length : Int) != (ts.length : Int)) = false := by rw [hlen]; simp
      have hle2 : ((fs.length : Int) == (ts.length : Int)) = true := by rw [hlen]; simp
      have HLEN := Lib.hid hlen
      rw [he, ← hfs] at HSp
      clear hez hlen he hfs
      go_enter Tryz.func45, Tryz.ntmps45
      go_wp2_with (go_at_call 59; refine (HSp.out _ ((H.out.alloc (Nat.le_refl _) _).more (by simp))).mono ?_; rintro e w1 ⟨v1, rfl, hown, hb1⟩; obtain ⟨F, fc, rfl, hrf, -⟩ := hown.shape; have hs1 : w.heap.size < w1.heap.size := (by have := hb1.size; simp at this; omega); have e0 := (hb1.cell (p := ⟨w.heap.size, 0, none⟩) (by simp)).trans (cell_of_row _ w.heap.size 0 _ _ _ (heap_alloc_new w _)); have HB1 := Lib.hid (((Below.refl _ _).alloc (Nat.le_refl _) _).trans (hb1.mono (by simp))); have HRF := Lib.hid hrf; clear hown hb1 hrf)
      obtain ⟨vs, hvs, hvc⟩ := HRF.out.texts
      have HVS := Lib.hid hvs
      have HVC := Lib.hid hvc
      clear hvs hvc
      go_loopw [31] (fun i wr => ∃ (k : Nat) (cs : Array Value), i = .int .i64 k ∧ k ≤ fs.length ∧ ValRel w1 F fs fc ts vs k cs wr) (fun i _ => fs.length - (intOf i).toNat)
      case atStart => exact ⟨0, _, rfl, Nat.zero_le _, ValRel.start w1 F fs fc ts vs⟩
      case round =>
        obtain ⟨k, cs, rfl, hk, hR⟩ := hrel
        by_cases hlt : k < fs.length
        · have hR' := hR
          obtain ⟨hg, hsz, hcs, hgr, htg⟩ := hR'
          have hb2 := hR.below
          have kF := hR.box
          have kT := (hb2.cell (p := ⟨w.heap.size, 0, none⟩) hs1).trans e0
          have hFr := HRF.out.below hb2
          have hTr := (HT.out.below HB1.out).below (hb2.mono (Nat.le_of_lt hs1))
          have hlt2 : k < ts.length := by have := HLEN.out; omega
          obtain ⟨f, hf⟩ : ∃ f, fs[k]? = some f := ⟨_, List.getElem?_eq_getElem hlt⟩
          obtain ⟨t, ht⟩ : ∃ t, ts[k]? = some t := ⟨_, List.getElem?_eq_getElem hlt2⟩
          obtain ⟨b, off, rfl, hb, hc⟩ := hFr.open_ (by omega)
          obtain ⟨c1, V, c, c2, hV⟩ := hc k f hf
          have hvk : vs[k]? = some (.slice V f.2.length c) := by
            have hkv : k < vs.length := by rw [HVS.out.1]; simpa using hlt
            rw [List.getElem?_eq_getElem hkv]
            have := (hb2.cell (p := ⟨b, off + k * 2 + 1, none⟩) hb).trans (HVC.out b off rfl k _ (List.getElem?_eq_getElem hkv))
            rw [c2] at this
            exact this.symm
          have hbe : Below wr.heap.size wr (wr.alloc (.cells #[.int .i64 f.1, .slice V f.2.length c] 76)) := (Below.refl _ _).alloc (Nat.le_refl _) _
          have hws := hR.size
          have hB1s := HB1.out.size
          have HG := Lib.hid hg
          have HSZ := Lib.hid hsz
          have HR := Lib.hid hR
          have HB2 := Lib.hid hb2
          by_cases hx : f.1 = t
          · have htg' := fun W h1 h2 h3 h4 => tag_any w1.heap.size w.heap.size (some ⟨b, off, none⟩) T fs ts fs.length fc ts.length tc k W rfl rfl h1 h2 (B := wr.heap.size) h3 h4 hlt hlt2 true hf ht (by simp [hx])
            have HTG := Lib.hid htg'
            have HN := Lib.hid (fun w2 hb => hR.next (w2 := w2) hb hvk hlt hf ht hx)
            have HFR := Lib.hid ((hFr.more (by omega)).below hbe)
            have HTR := Lib.hid ((hTr.more (by omega)).below hbe)
            clear htg' hR hg hsz hcs hgr htg hc hf ht hx hvk hFr hTr hb2 hV
            obtain ⟨x, bs⟩ := f
            simp only at c1 c2 hbe HN
            go_wp2_with (go_at_call 60; refine (HTG.out _ (cell_alloc kF _) (cell_alloc kT _) HFR.out HTR.out).mono ?_; rintro e w2 ⟨rfl, hb3⟩; have e2 := (hb3.cell (p := ⟨wr.heap.size, 1, none⟩) (by simp)).trans (cell_of_row _ wr.heap.size 1 _ _ _ (heap_alloc_new wr _)); simp at e2; have HB4 := Lib.hid (hbe.trans (hb3.mono (by simp))); have hg2 := (HB4.out.block _ (show w1.heap.size + 1 < wr.heap.size by omega)).trans HG.out; have gc := cell_of_row _ _ k _ _ _ hg2; rw [Array.getElem?_eq_getElem (show k < cs.size by rw [HSZ.out]; exact hlt)] at gc; have gf := frozen_of_row _ _ k _ _ hg2; clear hb3 hg2)
            go_roundw
            case rel => exact ⟨k + 1, _, by go_num, by omega, HN.out _ HB4.out⟩
            case measure => simp [intOf]; omega
          · have htg' := fun W h1 h2 h3 h4 => tag_any w1.heap.size w.heap.size (some ⟨b, off, none⟩) T fs ts fs.length fc ts.length tc k W rfl rfl h1 h2 (B := wr.heap.size) h3 h4 hlt hlt2 false hf ht (by rw [eq_comm, beq_eq_false_iff_ne]; exact hx)
            have HTG := Lib.hid htg'
            have hv := valuesOf_tag (ts := ts) HE.out (by rw [← HFS.out]; exact hf) ht hx
            have HV := Lib.hid hv
            have HFR := Lib.hid ((hFr.more (by omega)).below hbe)
            have HTR := Lib.hid ((hTr.more (by omega)).below hbe)
            clear htg' hR hg hsz hcs hgr htg hc hf ht hx hvk hFr hTr hb2 hV hv
            obtain ⟨x, bs⟩ := f
            simp only at c1 c2 hbe
            go_wp2_with (go_at_call 60; refine (HTG.out _ (cell_alloc kF _) (cell_alloc kT _) HFR.out HTR.out).mono ?_; rintro e w2 ⟨rfl, hb3⟩; have HB4 := Lib.hid (hbe.trans (hb3.mono (by simp))))
            go_ret2
            exact ⟨_, by rw [HV.out]; rfl, by rw [HV.out]; exact IsS.nil_ _, (HB1.out.trans (HB2.out.mono (Nat.le_of_lt hs1))).trans (HB4.out.mono (by have := hB1s; omega))⟩
        · have hb2 := hR.below
          obtain ⟨hg, hsz, hcs, hgr, htg⟩ := hR
          have hkl : k = fs.length := by omega
          have hl2 := HLEN.out
          have hv : valuesOf l ts = (fs.map (·.2), 0) := by
            have := valuesOf_all (ts := ts) HE.out (by rw [← HFS.out]; exact hl2) (fun j f t hj hf ht => htg j f t (by omega) (by rw [← HFS.out] at hf; exact hf) ht)
            rw [this, ← HFS.out]
          have hs3 := hb2.size
          have hS : IsS wr (.slice (some ⟨w1.heap.size + 1, 0, none⟩) fs.length fs.length) (fs.map (·.2)) := by
            refine ⟨_, fs.length, by rw [List.length_map], RS.of_row ((HVS.out).below hb2) hg (by rw [List.length_map]; exact Nat.le_refl _) (by unfold maxLen; omega) (fun j u hu => hcs j u ?_ hu) hs3⟩
            have := (List.getElem?_eq_some_iff.1 hu).1
            rw [HVS.out.1, List.length_map] at this
            omega
          have HV := Lib.hid hv
          have HS := Lib.hid hS
          have HB := Lib.hid (HB1.out.trans (hb2.mono (Nat.le_of_lt hs1)))
          clear hv hS hg hsz hcs hgr htg hl2 hb2
          go_wp2
          go_ret2
          exact ⟨_, by rw [HV.out]; rfl, by rw [HV.out]; exact HS.out, HB.out⟩
    · have hv := valuesOf_len he hlen
      have HV := Lib.hid hv
      have hne : (((splitOf l).1.length : Int) == (ts.length : Int)) = false := by rw [beq_eq_false_iff_ne]; omega
      rw [he] at HSp
      have HE := Lib.hid he
      clear hv hlen he hez
      generalize (splitOf l).1 = fs at *
      go_enter Tryz.func45, Tryz.ntmps45
      go_wp2_with (go_at_call 59; refine (HSp.out _ ((H.out.alloc (Nat.le_refl _) _).more (by simp))).mono ?_; rintro e w1 ⟨v1, rfl, hown, hb1⟩; obtain ⟨F, fc, rfl, hrf, -⟩ := hown.shape; have hs1 : w.heap.size < w1.heap.size := (by have := hb1.size; simp at this; omega); have e0 := (hb1.cell (p := ⟨w.heap.size, 0, none⟩) (by simp)).trans (cell_of_row _ w.heap.size 0 _ _ _ (heap_alloc_new w _)); have HB1 := Lib.hid (((Below.refl _ _).alloc (Nat.le_refl _) _).trans (hb1.mono (by simp))); clear hown hb1 hrf)
      go_ret2
      exact ⟨_, by rw [HV.out]; rfl, by rw [HV.out]; exact IsS.nil_ _, HB1.out.alloc (Nat.le_of_lt hs1) _⟩
  · have hv := valuesOf_err (ts := ts) he
    have hne : ((splitOf l).2 == 0) = false := by rw [beq_eq_false_iff_ne]; exact he
    have HV := Lib.hid hv
    clear hv he
    generalize (splitOf l).2 = ec at *
    go_enter Tryz.func45, Tryz.ntmps45
    go_wp2_with (go_at_call 59; refine (HSp.out _ ((H.out.alloc (Nat.le_refl _) _).more (by simp))).mono ?_; rintro e w1 ⟨v1, rfl, hown, hb1⟩; obtain ⟨F, fc, rfl, hrf, -⟩ := hown.shape; have hs1 : w.heap.size < w1.heap.size := (by have := hb1.size; simp at this; omega); have HB1 := Lib.hid (((Below.refl _ _).alloc (Nat.le_refl _) _).trans (hb1.mono (by simp))); clear hown hb1 hrf)
    go_ret2
    exact ⟨_, by rw [HV.out]; rfl, by rw [HV.out]; exact IsS.nil_ _, HB1.out.alloc (Nat.le_of_lt hs1) _⟩
end Go.Proofs.YthgejidimnbplaaGreatDoor
