/- The walk of the document's Read (krb). -/
import Derived.Test.YtnfmbgmncdodkaaDoorKpa
import Derived.Test.YtnfmbgmncdodkaaDoorKuz
namespace Go.Proofs.YtnfmbgmncdodkaaDoor
open Go.RowKit
set_option maxRecDepth 10000 in
set_option maxHeartbeats 4000000 in
theorem refKRead_e (n cap : Nat) (A : Option Addr) (l : List UInt8) (w : World) (hn : l.length = n) (hb : n ≤ 10000) (h : RB w w.heap.size A l cap) (FS : List Fd) (e0 : Int) (hs : splitOf l = (FS, e0)) (he : e0 ≠ 0) :
    Calls Tryd.prog 7 #[.slice A n cap] w fun e w' => RdK w (readsK l) (madeK l) e w' := by
  have HN := Lib.hid hn
  have HB := Lib.hid hb
  have R0 := Lib.hid h
  have GA := Lib.hid (grown_alloc w (.cells kZero.toArray 26) none)
  have BA := Lib.hid (CB.new w 26 kZero)
  have RA := Lib.hid (h.keptB GA.out)
  have HSP := Lib.hid hs
  have HRN := Lib.hid (show readsK l = false by rw [readsK, hs]; simp [he])
  have he1 : (e0 == 0) = false := by simpa using he
  have he2 : (e0 != 0) = true := by simpa using he
  clear hn hb h hs he
  go_enter Tryd.func7, Tryd.ntmps7
  go_wp2_with (first
    | refine wpList_allocC zeroKr rfl rfl ?_
    | (go_at_call 24; refine (refSplit_any A l cap n _ HN.out RA.out (by have := HB.out; omega)).mono ?_; rw [HSP.out]; rintro e w1 ⟨v, rfl, o, b1⟩; have GV := Lib.hid (none_of_below b1 (Nat.le_refl _)); have HGX := Lib.hid (grown_trans' GA.out GV.out); have HBZX := Lib.hid (BA.out.kept GV.out); clear o b1)
    | (refine wpList_storeC (off := 0) (p := kZero) aggKr.hi rfl (.tmp 2) (.tmp 34) rfl _ (by first | rfl | kernel_rfl) kZero_one HBZX.out rfl (by rw [kZeroL]; omega) (by first | rfl | go_simp) rfl ?_; intro wz hz gz; rw [over_all _ _ (Nat.le_refl _)] at hz; have GZ := Lib.hid (none_new HGX.out gz (Nat.le_refl _)); have CZ := Lib.hid hz; clear hz gz))
  exact bodyPost_ret (results_C2 rfl _ aggKr CZ.out rfl rfl rfl) rfl (RdK.no (HRN.out) GZ.out rfl)
set_option maxRecDepth 10000 in
set_option maxHeartbeats 4000000 in
theorem refKRead_nil (n cap : Nat) (A : Option Addr) (l : List UInt8) (w : World) (hn : l.length = n) (hb : n ≤ 10000) (h : RB w w.heap.size A l cap) (hs : splitOf l = ([], 0)) :
    Calls Tryd.prog 7 #[.slice A n cap] w fun e w' => RdK w (readsK l) (madeK l) e w' := by
  have HN := Lib.hid hn
  have HB := Lib.hid hb
  have R0 := Lib.hid h
  have GA := Lib.hid (grown_alloc w (.cells kZero.toArray 26) none)
  have BA := Lib.hid (CB.new w 26 kZero)
  have RA := Lib.hid (h.keptB GA.out)
  have HSP := Lib.hid hs
  have HRN := Lib.hid (show readsK l = false by simp [readsK, hs, foldK, okK, tagsK, mZero])
  clear hn hb h hs
  go_enter Tryd.func7, Tryd.ntmps7
  go_wp2_with (first
    | refine wpList_allocC zeroKr rfl rfl ?_
    | (go_at_call 24; refine (refSplit_any A l cap n _ HN.out RA.out (by have := HB.out; omega)).mono ?_; rw [HSP.out]; rintro e w1 ⟨v, rfl, o, b1⟩; have GV := Lib.hid (none_of_below b1 (Nat.le_refl _)); have HGX := Lib.hid (grown_trans' GA.out GV.out); have HBZX := Lib.hid (BA.out.kept GV.out); obtain ⟨FA, fc, rfl, rf, -⟩ := o.shape; clear o b1)
    | (refine wpList_storeC (off := 0) (p := kZero) aggKr.hi rfl (.tmp 2) (.tmp 34) rfl _ (by first | rfl | kernel_rfl) kZero_one HBZX.out rfl (by rw [kZeroL]; omega) (by first | rfl | go_simp) rfl ?_; intro wz hz gz; rw [over_all _ _ (Nat.le_refl _)] at hz; have GZ := Lib.hid (none_new HGX.out gz (Nat.le_refl _)); have CZ := Lib.hid hz; clear hz gz))
  exact bodyPost_ret (results_C2 rfl _ aggKr CZ.out rfl rfl rfl) rfl (RdK.no (HRN.out) GZ.out rfl)
set_option maxRecDepth 10000 in
set_option maxHeartbeats 4000000 in
theorem refKRead_tag (n cap : Nat) (A : Option Addr) (l : List UInt8) (w : World) (hn : l.length = n) (hb : n ≤ 10000) (h : RB w w.heap.size A l cap) (FS : List Fd) (hs : splitOf l = (FS, 0)) (tg : Int) (v0 : List UInt8) (hf0 : FS[0]? = some (tg, v0)) (ht : tg ≠ 31) :
    Calls Tryd.prog 7 #[.slice A n cap] w fun e w' => RdK w (readsK l) (madeK l) e w' := by
  have HN := Lib.hid hn
  have HB := Lib.hid hb
  have R0 := Lib.hid h
  have GA := Lib.hid (grown_alloc w (.cells kZero.toArray 26) none)
  have BA := Lib.hid (CB.new w 26 kZero)
  have RA := Lib.hid (h.keptB GA.out)
  have HSP := Lib.hid hs
  have HRN := Lib.hid (show readsK l = false by
    cases hr : readsK l with
    | false => rfl
    | true =>
      obtain ⟨⟨f, hf, h1, -⟩, -⟩ := facts_of hs (by omega) hr
      rw [hf0] at hf
      injection hf with hf
      subst hf
      exact absurd h1 ht)
  obtain ⟨nv, hnv⟩ : ∃ n, v0.length = n := ⟨_, rfl⟩
  have HNV := Lib.hid hnv
  have ht1 : (tg == 31) = false := by simpa using ht
  obtain ⟨fn, hfn⟩ : ∃ n, FS.length = n := ⟨_, rfl⟩
  have HFN := Lib.hid hfn
  have hfp : 0 < fn := by rw [← hfn]; exact (List.getElem?_eq_some_iff.1 hf0).1
  have hfz : (fn == 0) = false := by simp; omega
  have hfzi : ((fn : Int) == 0) = false := by simp; omega
  have hfpi : (0 : Int) < (fn : Int) := by omega
  have HF0 := Lib.hid hf0
  clear hn hb h hs hf0 hfn ht hnv
  go_enter Tryd.func7, Tryd.ntmps7
  go_wp2_with (first
    | refine wpList_allocC zeroKr rfl rfl ?_
    | (go_at_call 24; refine (refSplit_any A l cap n _ HN.out RA.out (by have := HB.out; omega)).mono ?_; rw [HSP.out]; rintro e w1 ⟨v, rfl, o, b1⟩; have GV := Lib.hid (none_of_below b1 (Nat.le_refl _)); obtain ⟨b, off, fc2, rfl, hbk, hcell⟩ := o.openA (by rw [HFN.out]; assumption); rw [HFN.out]; obtain ⟨c0, V, vc, c1, hrv, hvb⟩ := hcell 0 (tg, v0) HF0.out; simp only [Nat.zero_mul, Nat.add_zero] at c0 c1; simp only at hrv; rw [HNV.out] at c1; have RV := Lib.hid hrv; have HGX := Lib.hid (grown_trans' GA.out GV.out); have HBZX := Lib.hid (BA.out.kept GV.out); clear hcell hrv hvb hbk; clear o b1)
    | (refine wpList_storeC (off := 0) (p := kZero) aggKr.hi rfl (.tmp 2) (.tmp 34) rfl _ (by first | rfl | kernel_rfl) kZero_one HBZX.out rfl (by rw [kZeroL]; omega) (by first | rfl | go_simp) rfl ?_; intro wz hz gz; rw [over_all _ _ (Nat.le_refl _)] at hz; have GZ := Lib.hid (none_new HGX.out gz (Nat.le_refl _)); have CZ := Lib.hid hz; clear hz gz))
  exact bodyPost_ret (results_C2 rfl _ aggKr CZ.out rfl rfl rfl) rfl (RdK.no (HRN.out) GZ.out rfl)
set_option maxRecDepth 10000 in
set_option maxHeartbeats 4000000 in
theorem refKRead_b (n cap : Nat) (A : Option Addr) (l : List UInt8) (w : World) (hn : l.length = n) (hb : n ≤ 10000) (h : RB w w.heap.size A l cap) (FS : List Fd) (hs : splitOf l = (FS, 0)) (v0 : List UInt8) (hf0 : FS[0]? = some (31, v0)) (q : Nat) (hq : readOf v0 = (q, false)) :
    Calls Tryd.prog 7 #[.slice A n cap] w fun e w' => RdK w (readsK l) (madeK l) e w' := by
  have HN := Lib.hid hn
  have HB := Lib.hid hb
  have R0 := Lib.hid h
  have GA := Lib.hid (grown_alloc w (.cells kZero.toArray 26) none)
  have BA := Lib.hid (CB.new w 26 kZero)
  have RA := Lib.hid (h.keptB GA.out)
  have HSP := Lib.hid hs
  have HRN := Lib.hid (show readsK l = false by
    cases hr : readsK l with
    | false => rfl
    | true =>
      obtain ⟨⟨f, hf, -, h2, h3, h4, -⟩, -⟩ := facts_of hs (by omega) hr
      rw [hf0] at hf
      injection hf with hf
      subst hf
      exfalso
      simp only at h2 h3 h4
      rw [hq] at h2; cases h2)
  obtain ⟨nv, hnv⟩ : ∃ n, v0.length = n := ⟨_, rfl⟩
  have HNV := Lib.hid hnv
  have HQ := Lib.hid hq
  obtain ⟨fn, hfn⟩ : ∃ n, FS.length = n := ⟨_, rfl⟩
  have HFN := Lib.hid hfn
  have hfp : 0 < fn := by rw [← hfn]; exact (List.getElem?_eq_some_iff.1 hf0).1
  have hfz : (fn == 0) = false := by simp; omega
  have hfzi : ((fn : Int) == 0) = false := by simp; omega
  have hfpi : (0 : Int) < (fn : Int) := by omega
  have HF0 := Lib.hid hf0
  clear hn hb h hs hf0 hfn hnv hq
  go_enter Tryd.func7, Tryd.ntmps7
  go_wp2_with (first
    | refine wpList_allocC zeroKr rfl rfl ?_
    | (go_at_call 24; refine (refSplit_any A l cap n _ HN.out RA.out (by have := HB.out; omega)).mono ?_; rw [HSP.out]; rintro e w1 ⟨v, rfl, o, b1⟩; have GV := Lib.hid (none_of_below b1 (Nat.le_refl _)); obtain ⟨b, off, fc2, rfl, hbk, hcell⟩ := o.openA (by rw [HFN.out]; assumption); rw [HFN.out]; obtain ⟨c0, V, vc, c1, hrv, hvb⟩ := hcell 0 (31, v0) HF0.out; simp only [Nat.zero_mul, Nat.add_zero] at c0 c1; simp only at hrv; rw [HNV.out] at c1; have RV := Lib.hid hrv; have HGX := Lib.hid (grown_trans' GA.out GV.out); have HBZX := Lib.hid (BA.out.kept GV.out); clear hcell hrv hvb hbk; clear o b1)
    | (go_at_call 25; have hrd := refRead_any V v0 vc _ _ RV.out; rw [HNV.out, HQ.out] at hrd; refine hrd.mono ?_; rintro e wq ⟨rfl, rfl⟩; clear hrd)
    | (refine wpList_storeC (off := 0) (p := kZero) aggKr.hi rfl (.tmp 2) (.tmp 53) rfl _ (by first | rfl | kernel_rfl) kZero_one HBZX.out rfl (by rw [kZeroL]; omega) (by first | rfl | go_simp) rfl ?_; intro wz hz gz; rw [over_all _ _ (Nat.le_refl _)] at hz; have GZ := Lib.hid (none_new HGX.out gz (Nat.le_refl _)); have CZ := Lib.hid hz; clear hz gz))
  exact bodyPost_ret (results_C2 rfl _ aggKr CZ.out rfl rfl rfl) rfl (RdK.no (HRN.out) GZ.out rfl)
set_option maxRecDepth 10000 in
set_option maxHeartbeats 4000000 in
theorem refKRead_lo (n cap : Nat) (A : Option Addr) (l : List UInt8) (w : World) (hn : l.length = n) (hb : n ≤ 10000) (h : RB w w.heap.size A l cap) (FS : List Fd) (hs : splitOf l = (FS, 0)) (v0 : List UInt8) (hf0 : FS[0]? = some (31, v0)) (q : Nat) (hq : readOf v0 = (q, true)) (hlo : q < 1) :
    Calls Tryd.prog 7 #[.slice A n cap] w fun e w' => RdK w (readsK l) (madeK l) e w' := by
  have HN := Lib.hid hn
  have HB := Lib.hid hb
  have R0 := Lib.hid h
  have GA := Lib.hid (grown_alloc w (.cells kZero.toArray 26) none)
  have BA := Lib.hid (CB.new w 26 kZero)
  have RA := Lib.hid (h.keptB GA.out)
  have HSP := Lib.hid hs
  have HRN := Lib.hid (show readsK l = false by
    cases hr : readsK l with
    | false => rfl
    | true =>
      obtain ⟨⟨f, hf, -, h2, h3, h4, -⟩, -⟩ := facts_of hs (by omega) hr
      rw [hf0] at hf
      injection hf with hf
      subst hf
      exfalso
      simp only at h2 h3 h4
      rw [hq] at h3; simp only at h3; omega)
  obtain ⟨nv, hnv⟩ : ∃ n, v0.length = n := ⟨_, rfl⟩
  have HNV := Lib.hid hnv
  have HQ := Lib.hid hq
  obtain rfl : q = 0 := by omega
  obtain ⟨fn, hfn⟩ : ∃ n, FS.length = n := ⟨_, rfl⟩
  have HFN := Lib.hid hfn
  have hfp : 0 < fn := by rw [← hfn]; exact (List.getElem?_eq_some_iff.1 hf0).1
  have hfz : (fn == 0) = false := by simp; omega
  have hfzi : ((fn : Int) == 0) = false := by simp; omega
  have hfpi : (0 : Int) < (fn : Int) := by omega
  have HF0 := Lib.hid hf0
  clear hn hb h hs hf0 hfn hnv hq
  go_enter Tryd.func7, Tryd.ntmps7
  go_wp2_with (first
    | refine wpList_allocC zeroKr rfl rfl ?_
    | (go_at_call 24; refine (refSplit_any A l cap n _ HN.out RA.out (by have := HB.out; omega)).mono ?_; rw [HSP.out]; rintro e w1 ⟨v, rfl, o, b1⟩; have GV := Lib.hid (none_of_below b1 (Nat.le_refl _)); obtain ⟨b, off, fc2, rfl, hbk, hcell⟩ := o.openA (by rw [HFN.out]; assumption); rw [HFN.out]; obtain ⟨c0, V, vc, c1, hrv, hvb⟩ := hcell 0 (31, v0) HF0.out; simp only [Nat.zero_mul, Nat.add_zero] at c0 c1; simp only at hrv; rw [HNV.out] at c1; have RV := Lib.hid hrv; have HGX := Lib.hid (grown_trans' GA.out GV.out); have HBZX := Lib.hid (BA.out.kept GV.out); clear hcell hrv hvb hbk; clear o b1)
    | (go_at_call 25; have hrd := refRead_any V v0 vc _ _ RV.out; rw [HNV.out, HQ.out] at hrd; refine hrd.mono ?_; rintro e wq ⟨rfl, rfl⟩; clear hrd)
    | (refine wpList_storeC (off := 0) (p := kZero) aggKr.hi rfl (.tmp 2) (.tmp 53) rfl _ (by first | rfl | kernel_rfl) kZero_one HBZX.out rfl (by rw [kZeroL]; omega) (by first | rfl | go_simp) rfl ?_; intro wz hz gz; rw [over_all _ _ (Nat.le_refl _)] at hz; have GZ := Lib.hid (none_new HGX.out gz (Nat.le_refl _)); have CZ := Lib.hid hz; clear hz gz))
  exact bodyPost_ret (results_C2 rfl _ aggKr CZ.out rfl rfl rfl) rfl (RdK.no (HRN.out) GZ.out rfl)
set_option maxRecDepth 10000 in
set_option maxHeartbeats 4000000 in
theorem refKRead_hi (n cap : Nat) (A : Option Addr) (l : List UInt8) (w : World) (hn : l.length = n) (hb : n ≤ 10000) (h : RB w w.heap.size A l cap) (FS : List Fd) (hs : splitOf l = (FS, 0)) (v0 : List UInt8) (hf0 : FS[0]? = some (31, v0)) (q : Nat) (hq : readOf v0 = (q, true)) (hhi : 7 < q) :
    Calls Tryd.prog 7 #[.slice A n cap] w fun e w' => RdK w (readsK l) (madeK l) e w' := by
  have HN := Lib.hid hn
  have HB := Lib.hid hb
  have R0 := Lib.hid h
  have GA := Lib.hid (grown_alloc w (.cells kZero.toArray 26) none)
  have BA := Lib.hid (CB.new w 26 kZero)
  have RA := Lib.hid (h.keptB GA.out)
  have HSP := Lib.hid hs
  have HRN := Lib.hid (show readsK l = false by
    cases hr : readsK l with
    | false => rfl
    | true =>
      obtain ⟨⟨f, hf, -, h2, h3, h4, -⟩, -⟩ := facts_of hs (by omega) hr
      rw [hf0] at hf
      injection hf with hf
      subst hf
      exfalso
      simp only at h2 h3 h4
      rw [hq] at h4; simp only at h4; omega)
  obtain ⟨nv, hnv⟩ : ∃ n, v0.length = n := ⟨_, rfl⟩
  have HNV := Lib.hid hnv
  have HQ := Lib.hid hq
  have hhi1 : ¬ (q : Int) < 1 := by omega
  have hhi2 : (7 : Int) < (q : Int) := by omega
  have hhi3 : ¬ q < 1 := by omega
  have hhi4 : ¬ q = 0 := by omega
  obtain ⟨fn, hfn⟩ : ∃ n, FS.length = n := ⟨_, rfl⟩
  have HFN := Lib.hid hfn
  have hfp : 0 < fn := by rw [← hfn]; exact (List.getElem?_eq_some_iff.1 hf0).1
  have hfz : (fn == 0) = false := by simp; omega
  have hfzi : ((fn : Int) == 0) = false := by simp; omega
  have hfpi : (0 : Int) < (fn : Int) := by omega
  have HF0 := Lib.hid hf0
  clear hn hb h hs hf0 hfn hnv hq
  go_enter Tryd.func7, Tryd.ntmps7
  go_wp2_with (first
    | refine wpList_allocC zeroKr rfl rfl ?_
    | (go_at_call 24; refine (refSplit_any A l cap n _ HN.out RA.out (by have := HB.out; omega)).mono ?_; rw [HSP.out]; rintro e w1 ⟨v, rfl, o, b1⟩; have GV := Lib.hid (none_of_below b1 (Nat.le_refl _)); obtain ⟨b, off, fc2, rfl, hbk, hcell⟩ := o.openA (by rw [HFN.out]; assumption); rw [HFN.out]; obtain ⟨c0, V, vc, c1, hrv, hvb⟩ := hcell 0 (31, v0) HF0.out; simp only [Nat.zero_mul, Nat.add_zero] at c0 c1; simp only at hrv; rw [HNV.out] at c1; have RV := Lib.hid hrv; have HGX := Lib.hid (grown_trans' GA.out GV.out); have HBZX := Lib.hid (BA.out.kept GV.out); clear hcell hrv hvb hbk; clear o b1)
    | (go_at_call 25; have hrd := refRead_any V v0 vc _ _ RV.out; rw [HNV.out, HQ.out] at hrd; refine hrd.mono ?_; rintro e wq ⟨rfl, rfl⟩; clear hrd)
    | (refine wpList_storeC (off := 0) (p := kZero) aggKr.hi rfl (.tmp 2) (.tmp 53) rfl _ (by first | rfl | kernel_rfl) kZero_one HBZX.out rfl (by rw [kZeroL]; omega) (by first | rfl | go_simp) rfl ?_; intro wz hz gz; rw [over_all _ _ (Nat.le_refl _)] at hz; have GZ := Lib.hid (none_new HGX.out gz (Nat.le_refl _)); have CZ := Lib.hid hz; clear hz gz))
  exact bodyPost_ret (results_C2 rfl _ aggKr CZ.out rfl rfl rfl) rfl (RdK.no (HRN.out) GZ.out rfl)
theorem run_buildKd (kd : Int) (w : World) : (Instr.build 26 #[(0, .int .i64 kd)]).run Tryd.prog w = .ok (.agg (kcells { mZero with kd := kd } none 0 none 0).toArray) w := by kernel_rfl
theorem foldK_i64 (FS : List Fd) : I64k (foldK FS).en ∧ I64k (foldK FS).fl ∧ I64k (foldK FS).co := by
  have hw : ∀ q : Nat, I64k (i64w q) := fun q => by unfold I64k i64w; rw [IntKind.wrap_i64]; omega
  have h0 : I64k 0 := by unfold I64k; omega
  refine foldK_inv (fun m => I64k m.en ∧ I64k m.fl ∧ I64k m.co) FS ⟨h0, h0, h0⟩ fun m f _ hm => ?_
  obtain ⟨a, b, c⟩ := hm
  unfold putK
  repeat' split
  all_goals exact ⟨by first | exact a | exact hw _, by first | exact b | exact hw _, by first | exact c | exact hw _⟩
theorem numOk_num {t : Int} {v : List UInt8} (h : t = 35 ∨ t = 36 ∨ t = 39) : numOk (t, v) = ((readOf v).2 && decide ((readOf v).1 ≤ 1099511627776)) := by
  unfold numOk
  rw [if_neg (by simp only; omega), if_pos h]
theorem numOk_34 {v : List UInt8} : numOk (34, v) = (readOf v).2 := by unfold numOk; rw [if_pos rfl]
theorem numOk_not {t : Int} {v : List UInt8} (h : t ≠ 34 ∧ ¬ (t = 35 ∨ t = 36 ∨ t = 39)) : numOk (t, v) = true := by
  unfold numOk
  rw [if_neg h.1, if_neg h.2]
theorem Reading.all {B g : Nat} {m : Msg} {w : World} {T : Option Addr} {tc : Nat} {S : Option Addr} {sc : Nat} (h1 : CB w g 26 (kcells m T tc S sc)) (h2 : KM w w.heap.size m T tc S sc) (h3 : Own2 B T S) : Reading B g m w := ⟨T, tc, S, sc, h1, h2, h3⟩
set_option maxRecDepth 10000 in
set_option maxHeartbeats 40000000 in
theorem refKRead_go (n cap : Nat) (A : Option Addr) (l : List UInt8) (w : World) (hn : l.length = n) (hb : n ≤ 10000) (h : RB w w.heap.size A l cap) (FS : List Fd) (hs : splitOf l = (FS, 0)) (v0 : List UInt8) (hf0 : FS[0]? = some (31, v0)) (kd : Int) (h1 : 1 ≤ kd) (h7 : kd ≤ 7) (hq : readOf v0 = (kd.toNat, true)) :
    Calls Tryd.prog 7 #[.slice A n cap] w fun e w' => RdK w (readsK l) (madeK l) e w' := by
  have HN := Lib.hid hn
  have HB := Lib.hid hb
  have R0 := Lib.hid h
  have GA := Lib.hid (grown_alloc w (.cells kZero.toArray 26) none)
  have BA := Lib.hid (CB.new w 26 kZero)
  have RA := Lib.hid (h.keptB GA.out)
  have HSP := Lib.hid hs
  have HMD := Lib.hid (show madeK l = foldK FS by rw [madeK, hs])
  have HI := Lib.hid (show i64w (readOf v0).1 = kd by rw [hq]; rw [(i64w_sm (n := kd.toNat) (by omega)).1]; omega)
  have HALL := Lib.hid (show mAt kd FS FS.length = foldK FS from mAt_fold hf0 rfl HI.out)
  have HKD := Lib.hid (fun j (hg : Good kd FS j) => mAt_kd (FS := FS) (kd := kd) (fun f hf => by rw [hf0] at hf; injection hf with hf; subst hf; exact ⟨rfl, HI.out⟩) j hg)
  have HFC := Lib.hid (fun hr : readsK l = true => show FS.length = (tagsK kd).length ∧ Good kd FS FS.length ∧ okK (foldK FS) = true by
    obtain ⟨⟨f, hf, -, -, -, -, h5, h6⟩, h8⟩ := facts_of hs (by omega) hr
    rw [hf0] at hf
    injection hf with hf
    subst hf
    simp only [hq] at h5 h6
    rw [show ((kd.toNat : Nat) : Int) = kd by omega] at h5 h6
    exact ⟨h5, h6, h8⟩)
  have HOF := Lib.hid (fun (h5 : FS.length = (tagsK kd).length) (h6 : Good kd FS FS.length) => reads_of hs h1 h7 h5 h6 (fun f hf => by rw [hf0] at hf; injection hf with hf; subst hf; simp only; rw [hq]; exact ⟨rfl, rfl⟩))
  have HLN := Lib.hid (foldK_lens FS fun f hf => by
    have h1 := len_of_tot FS f hf
    have h2 := tot_splitOf l
    rw [hs] at h2
    simp only at h2
    omega)
  have H64 := Lib.hid (foldK_i64 FS)
  obtain ⟨nv, hnv⟩ : ∃ n, v0.length = n := ⟨_, rfl⟩
  have HNV := Lib.hid hnv
  obtain ⟨q, hqq⟩ : ∃ q, kd.toNat = q := ⟨_, rfl⟩
  have HQ := Lib.hid (show readOf v0 = (q, true) by rw [hq, hqq])
  have hqk : (q : Int) = kd := by omega
  have H1 := Lib.hid h1
  have H7 := Lib.hid h7
  have hwk : IntKind.i64.wrap kd = kd := by rw [IntKind.wrap_i64]; omega
  have hk1 : ¬ kd < 1 := by omega
  have hk7 : ¬ 7 < kd := by omega
  obtain ⟨fn, hfn⟩ : ∃ n, FS.length = n := ⟨_, rfl⟩
  have HFN := Lib.hid hfn
  have hfp : 0 < fn := by rw [← hfn]; exact (List.getElem?_eq_some_iff.1 hf0).1
  have hfz : (fn == 0) = false := by simp; omega
  have hfzi : ((fn : Int) == 0) = false := by simp; omega
  have hfpi : (0 : Int) < (fn : Int) := by omega
  have HF0 := Lib.hid hf0
  have HFB := Lib.hid (show fn ≤ 10000 by
    have h2 := tot_splitOf l
    rw [hs] at h2
    have h3 := len_tot FS
    simp only at h2
    omega)
  rw [HMD.out]
  clear hn hb h hs hf0 hfn hnv hq hqq
  go_enter Tryd.func7, Tryd.ntmps7
  go_wp2_with (first
    | refine wpList_allocC zeroKr rfl rfl ?_
    | (go_at_call 24; refine (refSplit_any A l cap n _ HN.out RA.out (by have := HB.out; omega)).mono ?_; rw [HSP.out]; rintro e w1 ⟨v, rfl, o, b1⟩; have GV := Lib.hid (none_of_below b1 (Nat.le_refl _)); have G1 := Lib.hid (grown_trans' GA.out GV.out); have B1 := Lib.hid (BA.out.kept GV.out); have O1 := Lib.hid (o.base_ GA.out.size); obtain ⟨b, off, fc2, rfl, hbk, hcell⟩ := O1.out.openA (by rw [HFN.out]; assumption); rw [HFN.out]; have HBK := Lib.hid hbk; have HCELL := Lib.hid hcell; obtain ⟨c0, V, vc, c1, hrv, hvb⟩ := hcell 0 (31, v0) HF0.out; simp only [Nat.zero_mul, Nat.add_zero] at c0 c1; simp only at hrv; rw [HNV.out] at c1; have RV := Lib.hid hrv; clear hcell hrv hvb hbk o b1)
    | (go_at_call 25; have hrd := refRead_any V v0 vc _ _ RV.out; rw [HNV.out, HQ.out] at hrd; rw [hqk] at hrd; refine hrd.mono ?_; rintro e wq ⟨rfl, rfl⟩; clear hrd)
    | (refine wpList_buildV rfl rfl (by first | rfl | (go_simp; rfl)) (run_buildKd kd _) ?_)
    | (refine wpList_storeC (off := 0) (p := kcells { mZero with kd := kd } none 0 none 0) aggKr.hi rfl (.tmp 8) (.tmp 56) rfl (.agg (kcells { mZero with kd := kd } none 0 none 0).toArray) rfl (kcells_one _ _ _ _ _) (CB.new w1 26 kZero) rfl (Nat.le_refl _) (by first | rfl | go_simp) (by first | rfl | go_simp) ?_; intro w6 h6 g6; rw [over_all _ _ (show kZero.length ≤ (kcells { mZero with kd := kd } none 0 none 0).length from Nat.le_refl 9)] at h6; have C6 := Lib.hid h6; have G6 := Lib.hid (none_new (grown_alloc w1 (.cells kZero.toArray 26) none) g6 (Nat.le_refl _)); clear h6 g6))
  go_loopw [9, 10] (fun at_ i wr => ∃ k : Nat, i = .int .i64 k ∧ k ≤ 9 ∧ at_ = .int .i64 (cntK kd k) ∧ Reading w.heap.size w1.heap.size (mAt kd FS (cntK kd k)) wr ∧ Good kd FS (cntK kd k) ∧ cntK kd k ≤ fn ∧ w1.grownBy wr none) (fun _ i _ => 9 - (intOf i).toNat)
  case atStart => exact ⟨0, rfl, Nat.zero_le _, by rw [cntK_zero H1.out H7.out]; rfl, by rw [cntK_zero H1.out H7.out]; exact Reading.all C6.out ⟨RB.nil_ _ _, RB.nil_ _ _⟩ ⟨fun a ha => (by cases ha), fun a ha => (by cases ha)⟩, by rw [cntK_zero H1.out H7.out]; exact Good.zero _ _, by rw [cntK_zero H1.out H7.out]; exact Nat.zero_le _, G6.out⟩
  case round =>
    obtain ⟨k, rfl, hk, rfl, ⟨T, tc, S, sc, hc, hkm, hown⟩, hgood, hjf, hg⟩ := hrel
    have CR := Lib.hid hc
    have KR := Lib.hid hkm
    have OR := Lib.hid hown
    have GD := Lib.hid hgood
    have GR := Lib.hid hg
    have HGX := Lib.hid (grown_trans' G1.out hg)
    have HBZX := Lib.hid (B1.out.kept hg)
    have hmk := HKD.out _ hgood
    obtain ⟨j, hj⟩ : ∃ j, cntK kd k = j := ⟨_, rfl⟩
    have HJ := Lib.hid hj
    have hj9 : j ≤ 9 := by rw [← hj]; exact cntK_le _ _
    have hji : (j : Int) ≤ 9 := by omega
    rw [hj] at CR KR GD hmk hjf ⊢
    have HJF := Lib.hid hjf
    obtain ⟨m, hm⟩ : ∃ m, mAt kd FS j = m := ⟨_, rfl⟩
    have Hm := Lib.hid hm
    rw [hm] at CR KR hmk
    have HMK := Lib.hid hmk
    have q0 : wr.cell? ⟨w1.heap.size, 0, none⟩ = some (.int .i64 kd) := by rw [← hmk]; exact CR.out.at_ (i := 0) (v := .int .i64 m.kd) rfl
    have hnf : (fn : Int) ≤ 10000 := by have := HFB.out; omega
    clear hc hkm hown hgood hg hj hm hmk hjf
    by_cases hlt : k < 9
    · have hlti : (k : Int) < 9 := by omega
      cases hct : (tagsK kd).contains (31 + (k : Int)) with
      | false =>
        have HCT := Lib.hid hct
        have HC1 := Lib.hid (show cntK kd (k + 1) = j by rw [cntK_out H1.out H7.out hlt hct, HJ.out])
        clear hct
        go_wp2_with (go_at_call 26; refine (refHas_any _ _ _).mono ?_; rintro r wn ⟨rfl, gn⟩; rw [HCT.out]; have GN := Lib.hid (grown_trans' GR.out gn); have RN := Lib.hid (Reading.all (CR.out.kept gn) (KR.out.keptK gn) OR.out); clear gn)
        go_roundw
        case rel => exact ⟨k + 1, by go_num, by omega, by rw [HC1.out], by rw [HC1.out, Hm.out]; exact RN.out, by rw [HC1.out]; exact GD.out, by rw [HC1.out]; exact HJF.out, GN.out⟩
        case measure => first | (simp [intOf]; done) | (simp [intOf]; omega)
      | true =>
        have HCT0 := Lib.hid hct
        have HC1 := Lib.hid (show cntK kd (k + 1) = j + 1 by rw [(cntK_in H1.out H7.out hlt hct).1, HJ.out])
        have HTA := Lib.hid (show (tagsK kd)[j]? = some (31 + (k : Int)) by rw [← HJ.out]; exact (cntK_in H1.out H7.out hlt hct).2)
        obtain ⟨t, ht⟩ : ∃ t : Int, 31 + (k : Int) = t := ⟨_, rfl⟩
        have hwt : IntKind.i64.wrap (31 + (k : Int)) = t := by rw [← ht, IntKind.wrap_i64]; omega
        have HCT := Lib.hid (show (tagsK kd).contains t = true by rw [← ht]; exact hct)
        rw [ht] at HTA
        clear hct
        by_cases hjl : j < fn
        · obtain ⟨f, hf⟩ : ∃ f, FS[j]? = some f := ⟨_, List.getElem?_eq_getElem (by rw [HFN.out]; exact hjl)⟩
          obtain ⟨tg, u⟩ := f
          have HF := Lib.hid hf
          have HJL := Lib.hid hjl
          obtain ⟨c0, W, wc, c1, hrv, hvb⟩ := HCELL.out j (tg, u) hf
          obtain ⟨nw, hnw⟩ : ∃ n, u.length = n := ⟨_, rfl⟩
          have HNW := Lib.hid hnw
          simp only at c0 c1 hrv
          rw [hnw] at c1
          have HBR := Lib.hid (show b < wr.heap.size from Nat.lt_of_lt_of_le HBK.out GR.out.size)
          have K1 := Lib.hid (((below_of_none GR.out).cell (p := ⟨b, off + j * 2, none⟩) HBK.out).trans c0)
          have K2 := Lib.hid (((below_of_none GR.out).cell (p := ⟨b, off + j * 2 + 1, none⟩) HBK.out).trans c1)
          have RVr := Lib.hid (hrv.keptB GR.out)
          have HVB := Lib.hid hvb
          have hjli : (j : Int) < (fn : Int) := by omega
          have hjl3 : ¬ fn ≤ j := by omega
          have HJ1 := Lib.hid (show j + 1 ≤ fn from hjl)
          have HMS := Lib.hid (show mAt kd FS (j + 1) = putK m (tg, u) by rw [mAt_succ hf, Hm.out])
          obtain ⟨⟨q2, rb⟩, hq2⟩ : ∃ p, readOf u = p := ⟨_, rfl⟩
          have HQ2 := Lib.hid hq2
          clear c0 c1 hrv hvb hf hnw
          by_cases htg : tg = t
          · have HTG := Lib.hid htg
            clear htg
            rcases nine hlt with rfl | rfl | rfl | rfl | rfl | rfl | rfl | rfl | rfl
            · have HTT : t = 31 := by omega
              subst HTT
              obtain rfl : tg = 31 := HTG.out
              have HNO := Lib.hid (show numOk (31, u) = true from numOk_not (by omega))
              have HPK := Lib.hid (show putK m (31, u) = m by
                have hj0 : j = 0 := by rw [← HJ.out, cntK_zero H1.out H7.out]
                have hu := HF.out
                rw [hj0, HF0.out] at hu
                injection hu with hu
                injection hu with _ hu
                subst hu
                unfold putK
                rw [if_pos rfl]
                show { m with kd := i64w (readOf v0).1 } = m
                rw [HI.out, ← HMK.out])
              clear hq2 ht
              go_wp2_with (first
                | (go_at_call 26; refine (refHas_any _ _ _).mono ?_; rintro r wn ⟨rfl, gn⟩; rw [HCT.out]; have HGX := Lib.hid (grown_trans' HGX.out gn); have HBZX := Lib.hid (HBZX.out.kept gn); have k1 := ((below_of_none gn).cell (p := ⟨b, off + j * 2, none⟩) HBR.out).trans K1.out; have k2 := ((below_of_none gn).cell (p := ⟨b, off + j * 2 + 1, none⟩) HBR.out).trans K2.out; have RV2 := Lib.hid (RVr.out.keptB gn); have s1 := run_strB byteT Tryd.underlying9 (RVr.out.keptB gn); rw [HNW.out] at s1; have GR2 := Lib.hid (grown_trans' GR.out gn); have CR2 := Lib.hid (CR.out.kept gn); have KR2 := Lib.hid (KR.out.keptK gn); clear gn)
                | (go_at_call 25; have hrd := refRead_any W u wc _ _ RV2.out; rw [HNW.out, HQ2.out] at hrd; refine hrd.mono ?_; rintro e wq ⟨rfl, rfl⟩; clear hrd))
              go_roundw
              case rel => exact ⟨0 + 1, by go_num, by omega, by rw [HC1.out]; go_num, by rw [HC1.out, HMS.out, HPK.out]; exact Reading.all CR2.out KR2.out OR.out, by rw [HC1.out]; exact GD.out.succ HF.out HTA.out HNO.out, by rw [HC1.out]; exact HJ1.out, GR2.out⟩
              case measure => first | (simp [intOf]; done) | (simp [intOf]; omega)
            · have HTT : t = 32 := by omega
              subst HTT
              obtain rfl : tg = 32 := HTG.out
              have HNO := Lib.hid (show numOk (32, u) = true from numOk_not (by omega))
              have HPK := Lib.hid (show putK m (32, u) = { m with c := ba u } from rfl)
              clear hq2 ht
              go_wp2_with (first
                | (go_at_call 26; refine (refHas_any _ _ _).mono ?_; rintro r wn ⟨rfl, gn⟩; rw [HCT.out]; have HGX := Lib.hid (grown_trans' HGX.out gn); have HBZX := Lib.hid (HBZX.out.kept gn); have k1 := ((below_of_none gn).cell (p := ⟨b, off + j * 2, none⟩) HBR.out).trans K1.out; have k2 := ((below_of_none gn).cell (p := ⟨b, off + j * 2 + 1, none⟩) HBR.out).trans K2.out; have RV2 := Lib.hid (RVr.out.keptB gn); have s1 := run_strB byteT Tryd.underlying9 (RVr.out.keptB gn); rw [HNW.out] at s1; have GR2 := Lib.hid (grown_trans' GR.out gn); have CR2 := Lib.hid (CR.out.kept gn); have KR2 := Lib.hid (KR.out.keptK gn); clear gn)
                | (go_at_call 25; have hrd := refRead_any W u wc _ _ RV2.out; rw [HNW.out, HQ2.out] at hrd; refine hrd.mono ?_; rintro e wq ⟨rfl, rfl⟩; clear hrd)
                | (refine wpList_storeC (off := 1) (p := [.string (ba u)]) (by kernel_rfl) rfl (.tmp 127) (.tmp 126) rfl (.string (ba u)) rfl (fun z hz => by rw [List.mem_singleton.1 hz]; rfl) CR2.out rfl (by rw [kcells_length]; simp) (by first | rfl | go_simp) (by first | rfl | go_simp) ?_; intro w3 h3 g3; have C3 := Lib.hid (show CB w3 w1.heap.size 26 (kcells ({ m with c := ba u }) T tc S sc) from h3); have G3 := Lib.hid (none_new GR2.out g3 (Nat.le_refl _)); have K3 := Lib.hid (KR2.out.otherU g3 CR2.out (kcells_u8 _ _ _ _ _)); have RV3 := Lib.hid (RV2.out.otherU g3 CR2.out (kcells_u8 _ _ _ _ _)); clear h3 g3))
              go_roundw
              case rel => exact ⟨1 + 1, by go_num, by omega, by rw [HC1.out]; go_num, by rw [HC1.out, HMS.out, HPK.out]; exact Reading.all C3.out K3.out OR.out, by rw [HC1.out]; exact GD.out.succ HF.out HTA.out HNO.out, by rw [HC1.out]; exact HJ1.out, G3.out⟩
              case measure => first | (simp [intOf]; done) | (simp [intOf]; omega)
            · have HTT : t = 33 := by omega
              subst HTT
              obtain rfl : tg = 33 := HTG.out
              have HNO := Lib.hid (show numOk (33, u) = true from numOk_not (by omega))
              have HPK := Lib.hid (show putK m (33, u) = { m with s := ba u } from rfl)
              clear hq2 ht
              go_wp2_with (first
                | (go_at_call 26; refine (refHas_any _ _ _).mono ?_; rintro r wn ⟨rfl, gn⟩; rw [HCT.out]; have HGX := Lib.hid (grown_trans' HGX.out gn); have HBZX := Lib.hid (HBZX.out.kept gn); have k1 := ((below_of_none gn).cell (p := ⟨b, off + j * 2, none⟩) HBR.out).trans K1.out; have k2 := ((below_of_none gn).cell (p := ⟨b, off + j * 2 + 1, none⟩) HBR.out).trans K2.out; have RV2 := Lib.hid (RVr.out.keptB gn); have s1 := run_strB byteT Tryd.underlying9 (RVr.out.keptB gn); rw [HNW.out] at s1; have GR2 := Lib.hid (grown_trans' GR.out gn); have CR2 := Lib.hid (CR.out.kept gn); have KR2 := Lib.hid (KR.out.keptK gn); clear gn)
                | (go_at_call 25; have hrd := refRead_any W u wc _ _ RV2.out; rw [HNW.out, HQ2.out] at hrd; refine hrd.mono ?_; rintro e wq ⟨rfl, rfl⟩; clear hrd)
                | (refine wpList_storeC (off := 2) (p := [.string (ba u)]) (by kernel_rfl) rfl (.tmp 132) (.tmp 131) rfl (.string (ba u)) rfl (fun z hz => by rw [List.mem_singleton.1 hz]; rfl) CR2.out rfl (by rw [kcells_length]; simp) (by first | rfl | go_simp) (by first | rfl | go_simp) ?_; intro w3 h3 g3; have C3 := Lib.hid (show CB w3 w1.heap.size 26 (kcells ({ m with s := ba u }) T tc S sc) from h3); have G3 := Lib.hid (none_new GR2.out g3 (Nat.le_refl _)); have K3 := Lib.hid (KR2.out.otherU g3 CR2.out (kcells_u8 _ _ _ _ _)); have RV3 := Lib.hid (RV2.out.otherU g3 CR2.out (kcells_u8 _ _ _ _ _)); clear h3 g3))
              go_roundw
              case rel => exact ⟨2 + 1, by go_num, by omega, by rw [HC1.out]; go_num, by rw [HC1.out, HMS.out, HPK.out]; exact Reading.all C3.out K3.out OR.out, by rw [HC1.out]; exact GD.out.succ HF.out HTA.out HNO.out, by rw [HC1.out]; exact HJ1.out, G3.out⟩
              case measure => first | (simp [intOf]; done) | (simp [intOf]; omega)
            · have HTT : t = 34 := by omega
              subst HTT
              obtain rfl : tg = 34 := HTG.out
              clear hq2 ht
              cases rb with
              | false =>
                have HRN := Lib.hid (show readsK l = false by
                  cases hr : readsK l with
                  | false => rfl
                  | true =>
                    obtain ⟨f, hf, -, ho⟩ := (HFC.out hr).2.1 j (by rw [HFN.out]; exact HJL.out)
                    rw [HF.out] at hf
                    injection hf with hf
                    subst hf
                    rw [numOk_34, HQ2.out] at ho
                    cases ho)
                go_wp2_with (first
                  | (go_at_call 26; refine (refHas_any _ _ _).mono ?_; rintro r wn ⟨rfl, gn⟩; rw [HCT.out]; have HGX := Lib.hid (grown_trans' HGX.out gn); have HBZX := Lib.hid (HBZX.out.kept gn); have k1 := ((below_of_none gn).cell (p := ⟨b, off + j * 2, none⟩) HBR.out).trans K1.out; have k2 := ((below_of_none gn).cell (p := ⟨b, off + j * 2 + 1, none⟩) HBR.out).trans K2.out; have RV2 := Lib.hid (RVr.out.keptB gn); have s1 := run_strB byteT Tryd.underlying9 (RVr.out.keptB gn); rw [HNW.out] at s1; have GR2 := Lib.hid (grown_trans' GR.out gn); have CR2 := Lib.hid (CR.out.kept gn); have KR2 := Lib.hid (KR.out.keptK gn); clear gn)
                  | (go_at_call 25; have hrd := refRead_any W u wc _ _ RV2.out; rw [HNW.out, HQ2.out] at hrd; refine hrd.mono ?_; rintro e wq ⟨rfl, rfl⟩; clear hrd)
                  | (refine wpList_storeC (off := 0) (p := kZero) aggKr.hi rfl (.tmp 2) (.tmp 122) rfl _ (by first | rfl | kernel_rfl) kZero_one HBZX.out rfl (by rw [kZeroL]; omega) (by first | rfl | go_simp) rfl ?_; intro wz hz gz; rw [over_all _ _ (Nat.le_refl _)] at hz; have GZ := Lib.hid (none_new HGX.out gz (Nat.le_refl _)); have CZ := Lib.hid hz; clear hz gz))
                exact bodyPost_ret (results_C2 rfl _ aggKr CZ.out rfl rfl rfl) rfl (RdK.no (HRN.out) GZ.out rfl)

              | true =>
                have HNO := Lib.hid (show numOk (34, u) = true by rw [numOk_34, HQ2.out])
                have HPK := Lib.hid (show putK m (34, u) = { m with no := q2 } by unfold putK; rw [HQ2.out]; rfl)
                go_wp2_with (first
                  | (go_at_call 26; refine (refHas_any _ _ _).mono ?_; rintro r wn ⟨rfl, gn⟩; rw [HCT.out]; have HGX := Lib.hid (grown_trans' HGX.out gn); have HBZX := Lib.hid (HBZX.out.kept gn); have k1 := ((below_of_none gn).cell (p := ⟨b, off + j * 2, none⟩) HBR.out).trans K1.out; have k2 := ((below_of_none gn).cell (p := ⟨b, off + j * 2 + 1, none⟩) HBR.out).trans K2.out; have RV2 := Lib.hid (RVr.out.keptB gn); have s1 := run_strB byteT Tryd.underlying9 (RVr.out.keptB gn); rw [HNW.out] at s1; have GR2 := Lib.hid (grown_trans' GR.out gn); have CR2 := Lib.hid (CR.out.kept gn); have KR2 := Lib.hid (KR.out.keptK gn); clear gn)
                  | (go_at_call 25; have hrd := refRead_any W u wc _ _ RV2.out; rw [HNW.out, HQ2.out] at hrd; refine hrd.mono ?_; rintro e wq ⟨rfl, rfl⟩; clear hrd)
                  | (refine wpList_storeC (off := 3) (p := [.int .u64 (q2 : Int)]) (by kernel_rfl) rfl (.tmp 136) (.tmp 135) rfl (.int .u64 (q2 : Int)) rfl (fun z hz => by rw [List.mem_singleton.1 hz]; rfl) CR2.out rfl (by rw [kcells_length]; simp) (by first | rfl | go_simp) (by first | rfl | go_simp) ?_; intro w3 h3 g3; have C3 := Lib.hid (show CB w3 w1.heap.size 26 (kcells ({ m with no := q2 }) T tc S sc) from h3); have G3 := Lib.hid (none_new GR2.out g3 (Nat.le_refl _)); have K3 := Lib.hid (KR2.out.otherU g3 CR2.out (kcells_u8 _ _ _ _ _)); have RV3 := Lib.hid (RV2.out.otherU g3 CR2.out (kcells_u8 _ _ _ _ _)); clear h3 g3))
                go_roundw
                case rel => exact ⟨3 + 1, by go_num, by omega, by rw [HC1.out]; go_num, by rw [HC1.out, HMS.out, HPK.out]; exact Reading.all C3.out K3.out OR.out, by rw [HC1.out]; exact GD.out.succ HF.out HTA.out HNO.out, by rw [HC1.out]; exact HJ1.out, G3.out⟩
                case measure => first | (simp [intOf]; done) | (simp [intOf]; omega)
            · have HTT : t = 35 := by omega
              subst HTT
              obtain rfl : tg = 35 := HTG.out
              clear hq2 ht
              cases rb with
              | false =>
                have HRN := Lib.hid (show readsK l = false by
                  cases hr : readsK l with
                  | false => rfl
                  | true =>
                    obtain ⟨f, hf, -, ho⟩ := (HFC.out hr).2.1 j (by rw [HFN.out]; exact HJL.out)
                    rw [HF.out] at hf
                    injection hf with hf
                    subst hf
                    rw [numOk_num (by omega), HQ2.out] at ho
                    simp at ho)
                go_wp2_with (first
                  | (go_at_call 26; refine (refHas_any _ _ _).mono ?_; rintro r wn ⟨rfl, gn⟩; rw [HCT.out]; have HGX := Lib.hid (grown_trans' HGX.out gn); have HBZX := Lib.hid (HBZX.out.kept gn); have k1 := ((below_of_none gn).cell (p := ⟨b, off + j * 2, none⟩) HBR.out).trans K1.out; have k2 := ((below_of_none gn).cell (p := ⟨b, off + j * 2 + 1, none⟩) HBR.out).trans K2.out; have RV2 := Lib.hid (RVr.out.keptB gn); have s1 := run_strB byteT Tryd.underlying9 (RVr.out.keptB gn); rw [HNW.out] at s1; have GR2 := Lib.hid (grown_trans' GR.out gn); have CR2 := Lib.hid (CR.out.kept gn); have KR2 := Lib.hid (KR.out.keptK gn); clear gn)
                  | (go_at_call 25; have hrd := refRead_any W u wc _ _ RV2.out; rw [HNW.out, HQ2.out] at hrd; refine hrd.mono ?_; rintro e wq ⟨rfl, rfl⟩; clear hrd)
                  | (refine wpList_storeC (off := 0) (p := kZero) aggKr.hi rfl (.tmp 2) (.tmp 122) rfl _ (by first | rfl | kernel_rfl) kZero_one HBZX.out rfl (by rw [kZeroL]; omega) (by first | rfl | go_simp) rfl ?_; intro wz hz gz; rw [over_all _ _ (Nat.le_refl _)] at hz; have GZ := Lib.hid (none_new HGX.out gz (Nat.le_refl _)); have CZ := Lib.hid hz; clear hz gz))
                exact bodyPost_ret (results_C2 rfl _ aggKr CZ.out rfl rfl rfl) rfl (RdK.no (HRN.out) GZ.out rfl)

              | true =>
                by_cases hq40 : q2 ≤ 1099511627776
                · have HNO := Lib.hid (show numOk (35, u) = true by rw [numOk_num (by omega), HQ2.out]; simpa using hq40)
                  have HI2 := Lib.hid (i64w_sm hq40).1
                  have HPK := Lib.hid (show putK m (35, u) = { m with en := (q2 : Int) } from by have := HI2.out; unfold putK; rw [HQ2.out]; show { m with en := i64w q2 } = _; rw [this])
                  have hq40i : (q2 : Int) ≤ 1099511627776 := by omega
                  have hq40n : ¬ 1099511627776 < q2 := by omega
                  have hq40m : ¬ (1099511627776 : Int) < (q2 : Int) := by omega
                  clear hq40
                  go_wp2_with (first
                    | (go_at_call 26; refine (refHas_any _ _ _).mono ?_; rintro r wn ⟨rfl, gn⟩; rw [HCT.out]; have HGX := Lib.hid (grown_trans' HGX.out gn); have HBZX := Lib.hid (HBZX.out.kept gn); have k1 := ((below_of_none gn).cell (p := ⟨b, off + j * 2, none⟩) HBR.out).trans K1.out; have k2 := ((below_of_none gn).cell (p := ⟨b, off + j * 2 + 1, none⟩) HBR.out).trans K2.out; have RV2 := Lib.hid (RVr.out.keptB gn); have s1 := run_strB byteT Tryd.underlying9 (RVr.out.keptB gn); rw [HNW.out] at s1; have GR2 := Lib.hid (grown_trans' GR.out gn); have CR2 := Lib.hid (CR.out.kept gn); have KR2 := Lib.hid (KR.out.keptK gn); clear gn)
                    | (go_at_call 25; have hrd := refRead_any W u wc _ _ RV2.out; rw [HNW.out, HQ2.out] at hrd; refine hrd.mono ?_; rintro e wq ⟨rfl, rfl⟩; clear hrd)
                    | (refine wpList_storeC (off := 4) (p := [.int .i64 (q2 : Int)]) (by kernel_rfl) rfl (.tmp 141) (.tmp 140) rfl (.int .i64 (q2 : Int)) rfl (fun z hz => by rw [List.mem_singleton.1 hz]; rfl) CR2.out rfl (by rw [kcells_length]; simp) (by first | rfl | go_simp) (by first | rfl | go_simp) ?_; intro w3 h3 g3; have C3 := Lib.hid (show CB w3 w1.heap.size 26 (kcells ({ m with en := (q2 : Int) }) T tc S sc) from h3); have G3 := Lib.hid (none_new GR2.out g3 (Nat.le_refl _)); have K3 := Lib.hid (KR2.out.otherU g3 CR2.out (kcells_u8 _ _ _ _ _)); have RV3 := Lib.hid (RV2.out.otherU g3 CR2.out (kcells_u8 _ _ _ _ _)); clear h3 g3))
                  go_roundw
                  case rel => exact ⟨4 + 1, by go_num, by omega, by rw [HC1.out]; go_num, by rw [HC1.out, HMS.out, HPK.out]; exact Reading.all C3.out K3.out OR.out, by rw [HC1.out]; exact GD.out.succ HF.out HTA.out HNO.out, by rw [HC1.out]; exact HJ1.out, G3.out⟩
                  case measure => first | (simp [intOf]; done) | (simp [intOf]; omega)

                · have hq40i : (1099511627776 : Int) < (q2 : Int) := by omega
                  have hq40n : 1099511627776 < q2 := by omega
                  have HRN := Lib.hid (show readsK l = false by
                    cases hr : readsK l with
                    | false => rfl
                    | true =>
                      obtain ⟨f, hf, -, ho⟩ := (HFC.out hr).2.1 j (by rw [HFN.out]; exact HJL.out)
                      rw [HF.out] at hf
                      injection hf with hf
                      subst hf
                      rw [numOk_num (by omega), HQ2.out] at ho
                      simp at ho; omega)
                  clear hq40
                  go_wp2_with (first
                    | (go_at_call 26; refine (refHas_any _ _ _).mono ?_; rintro r wn ⟨rfl, gn⟩; rw [HCT.out]; have HGX := Lib.hid (grown_trans' HGX.out gn); have HBZX := Lib.hid (HBZX.out.kept gn); have k1 := ((below_of_none gn).cell (p := ⟨b, off + j * 2, none⟩) HBR.out).trans K1.out; have k2 := ((below_of_none gn).cell (p := ⟨b, off + j * 2 + 1, none⟩) HBR.out).trans K2.out; have RV2 := Lib.hid (RVr.out.keptB gn); have s1 := run_strB byteT Tryd.underlying9 (RVr.out.keptB gn); rw [HNW.out] at s1; have GR2 := Lib.hid (grown_trans' GR.out gn); have CR2 := Lib.hid (CR.out.kept gn); have KR2 := Lib.hid (KR.out.keptK gn); clear gn)
                    | (go_at_call 25; have hrd := refRead_any W u wc _ _ RV2.out; rw [HNW.out, HQ2.out] at hrd; refine hrd.mono ?_; rintro e wq ⟨rfl, rfl⟩; clear hrd)
                    | (refine wpList_storeC (off := 0) (p := kZero) aggKr.hi rfl (.tmp 2) (.tmp 122) rfl _ (by first | rfl | kernel_rfl) kZero_one HBZX.out rfl (by rw [kZeroL]; omega) (by first | rfl | go_simp) rfl ?_; intro wz hz gz; rw [over_all _ _ (Nat.le_refl _)] at hz; have GZ := Lib.hid (none_new HGX.out gz (Nat.le_refl _)); have CZ := Lib.hid hz; clear hz gz))
                  exact bodyPost_ret (results_C2 rfl _ aggKr CZ.out rfl rfl rfl) rfl (RdK.no (HRN.out) GZ.out rfl)
            · have HTT : t = 36 := by omega
              subst HTT
              obtain rfl : tg = 36 := HTG.out
              clear hq2 ht
              cases rb with
              | false =>
                have HRN := Lib.hid (show readsK l = false by
                  cases hr : readsK l with
                  | false => rfl
                  | true =>
                    obtain ⟨f, hf, -, ho⟩ := (HFC.out hr).2.1 j (by rw [HFN.out]; exact HJL.out)
                    rw [HF.out] at hf
                    injection hf with hf
                    subst hf
                    rw [numOk_num (by omega), HQ2.out] at ho
                    simp at ho)
                go_wp2_with (first
                  | (go_at_call 26; refine (refHas_any _ _ _).mono ?_; rintro r wn ⟨rfl, gn⟩; rw [HCT.out]; have HGX := Lib.hid (grown_trans' HGX.out gn); have HBZX := Lib.hid (HBZX.out.kept gn); have k1 := ((below_of_none gn).cell (p := ⟨b, off + j * 2, none⟩) HBR.out).trans K1.out; have k2 := ((below_of_none gn).cell (p := ⟨b, off + j * 2 + 1, none⟩) HBR.out).trans K2.out; have RV2 := Lib.hid (RVr.out.keptB gn); have s1 := run_strB byteT Tryd.underlying9 (RVr.out.keptB gn); rw [HNW.out] at s1; have GR2 := Lib.hid (grown_trans' GR.out gn); have CR2 := Lib.hid (CR.out.kept gn); have KR2 := Lib.hid (KR.out.keptK gn); clear gn)
                  | (go_at_call 25; have hrd := refRead_any W u wc _ _ RV2.out; rw [HNW.out, HQ2.out] at hrd; refine hrd.mono ?_; rintro e wq ⟨rfl, rfl⟩; clear hrd)
                  | (refine wpList_storeC (off := 0) (p := kZero) aggKr.hi rfl (.tmp 2) (.tmp 122) rfl _ (by first | rfl | kernel_rfl) kZero_one HBZX.out rfl (by rw [kZeroL]; omega) (by first | rfl | go_simp) rfl ?_; intro wz hz gz; rw [over_all _ _ (Nat.le_refl _)] at hz; have GZ := Lib.hid (none_new HGX.out gz (Nat.le_refl _)); have CZ := Lib.hid hz; clear hz gz))
                exact bodyPost_ret (results_C2 rfl _ aggKr CZ.out rfl rfl rfl) rfl (RdK.no (HRN.out) GZ.out rfl)

              | true =>
                by_cases hq40 : q2 ≤ 1099511627776
                · have HNO := Lib.hid (show numOk (36, u) = true by rw [numOk_num (by omega), HQ2.out]; simpa using hq40)
                  have HI2 := Lib.hid (i64w_sm hq40).1
                  have HPK := Lib.hid (show putK m (36, u) = { m with fl := (q2 : Int) } from by have := HI2.out; unfold putK; rw [HQ2.out]; show { m with fl := i64w q2 } = _; rw [this])
                  have hq40i : (q2 : Int) ≤ 1099511627776 := by omega
                  have hq40n : ¬ 1099511627776 < q2 := by omega
                  have hq40m : ¬ (1099511627776 : Int) < (q2 : Int) := by omega
                  clear hq40
                  go_wp2_with (first
                    | (go_at_call 26; refine (refHas_any _ _ _).mono ?_; rintro r wn ⟨rfl, gn⟩; rw [HCT.out]; have HGX := Lib.hid (grown_trans' HGX.out gn); have HBZX := Lib.hid (HBZX.out.kept gn); have k1 := ((below_of_none gn).cell (p := ⟨b, off + j * 2, none⟩) HBR.out).trans K1.out; have k2 := ((below_of_none gn).cell (p := ⟨b, off + j * 2 + 1, none⟩) HBR.out).trans K2.out; have RV2 := Lib.hid (RVr.out.keptB gn); have s1 := run_strB byteT Tryd.underlying9 (RVr.out.keptB gn); rw [HNW.out] at s1; have GR2 := Lib.hid (grown_trans' GR.out gn); have CR2 := Lib.hid (CR.out.kept gn); have KR2 := Lib.hid (KR.out.keptK gn); clear gn)
                    | (go_at_call 25; have hrd := refRead_any W u wc _ _ RV2.out; rw [HNW.out, HQ2.out] at hrd; refine hrd.mono ?_; rintro e wq ⟨rfl, rfl⟩; clear hrd)
                    | (refine wpList_storeC (off := 5) (p := [.int .i64 (q2 : Int)]) (by kernel_rfl) rfl (.tmp 146) (.tmp 145) rfl (.int .i64 (q2 : Int)) rfl (fun z hz => by rw [List.mem_singleton.1 hz]; rfl) CR2.out rfl (by rw [kcells_length]; simp) (by first | rfl | go_simp) (by first | rfl | go_simp) ?_; intro w3 h3 g3; have C3 := Lib.hid (show CB w3 w1.heap.size 26 (kcells ({ m with fl := (q2 : Int) }) T tc S sc) from h3); have G3 := Lib.hid (none_new GR2.out g3 (Nat.le_refl _)); have K3 := Lib.hid (KR2.out.otherU g3 CR2.out (kcells_u8 _ _ _ _ _)); have RV3 := Lib.hid (RV2.out.otherU g3 CR2.out (kcells_u8 _ _ _ _ _)); clear h3 g3))
                  go_roundw
                  case rel => exact ⟨5 + 1, by go_num, by omega, by rw [HC1.out]; go_num, by rw [HC1.out, HMS.out, HPK.out]; exact Reading.all C3.out K3.out OR.out, by rw [HC1.out]; exact GD.out.succ HF.out HTA.out HNO.out, by rw [HC1.out]; exact HJ1.out, G3.out⟩
                  case measure => first | (simp [intOf]; done) | (simp [intOf]; omega)

                · have hq40i : (1099511627776 : Int) < (q2 : Int) := by omega
                  have hq40n : 1099511627776 < q2 := by omega
                  have HRN := Lib.hid (show readsK l = false by
                    cases hr : readsK l with
                    | false => rfl
                    | true =>
                      obtain ⟨f, hf, -, ho⟩ := (HFC.out hr).2.1 j (by rw [HFN.out]; exact HJL.out)
                      rw [HF.out] at hf
                      injection hf with hf
                      subst hf
                      rw [numOk_num (by omega), HQ2.out] at ho
                      simp at ho; omega)
                  clear hq40
                  go_wp2_with (first
                    | (go_at_call 26; refine (refHas_any _ _ _).mono ?_; rintro r wn ⟨rfl, gn⟩; rw [HCT.out]; have HGX := Lib.hid (grown_trans' HGX.out gn); have HBZX := Lib.hid (HBZX.out.kept gn); have k1 := ((below_of_none gn).cell (p := ⟨b, off + j * 2, none⟩) HBR.out).trans K1.out; have k2 := ((below_of_none gn).cell (p := ⟨b, off + j * 2 + 1, none⟩) HBR.out).trans K2.out; have RV2 := Lib.hid (RVr.out.keptB gn); have s1 := run_strB byteT Tryd.underlying9 (RVr.out.keptB gn); rw [HNW.out] at s1; have GR2 := Lib.hid (grown_trans' GR.out gn); have CR2 := Lib.hid (CR.out.kept gn); have KR2 := Lib.hid (KR.out.keptK gn); clear gn)
                    | (go_at_call 25; have hrd := refRead_any W u wc _ _ RV2.out; rw [HNW.out, HQ2.out] at hrd; refine hrd.mono ?_; rintro e wq ⟨rfl, rfl⟩; clear hrd)
                    | (refine wpList_storeC (off := 0) (p := kZero) aggKr.hi rfl (.tmp 2) (.tmp 122) rfl _ (by first | rfl | kernel_rfl) kZero_one HBZX.out rfl (by rw [kZeroL]; omega) (by first | rfl | go_simp) rfl ?_; intro wz hz gz; rw [over_all _ _ (Nat.le_refl _)] at hz; have GZ := Lib.hid (none_new HGX.out gz (Nat.le_refl _)); have CZ := Lib.hid hz; clear hz gz))
                  exact bodyPost_ret (results_C2 rfl _ aggKr CZ.out rfl rfl rfl) rfl (RdK.no (HRN.out) GZ.out rfl)
            · have HTT : t = 37 := by omega
              subst HTT
              obtain rfl : tg = 37 := HTG.out
              have HNO := Lib.hid (show numOk (37, u) = true from numOk_not (by omega))
              have HPK := Lib.hid (show putK m (37, u) = { m with t := u } from rfl)
              clear hq2 ht
              go_wp2_with (first
                | (go_at_call 26; refine (refHas_any _ _ _).mono ?_; rintro r wn ⟨rfl, gn⟩; rw [HCT.out]; have HGX := Lib.hid (grown_trans' HGX.out gn); have HBZX := Lib.hid (HBZX.out.kept gn); have k1 := ((below_of_none gn).cell (p := ⟨b, off + j * 2, none⟩) HBR.out).trans K1.out; have k2 := ((below_of_none gn).cell (p := ⟨b, off + j * 2 + 1, none⟩) HBR.out).trans K2.out; have RV2 := Lib.hid (RVr.out.keptB gn); have s1 := run_strB byteT Tryd.underlying9 (RVr.out.keptB gn); rw [HNW.out] at s1; have GR2 := Lib.hid (grown_trans' GR.out gn); have CR2 := Lib.hid (CR.out.kept gn); have KR2 := Lib.hid (KR.out.keptK gn); clear gn)
                | (go_at_call 25; have hrd := refRead_any W u wc _ _ RV2.out; rw [HNW.out, HQ2.out] at hrd; refine hrd.mono ?_; rintro e wq ⟨rfl, rfl⟩; clear hrd)
                | (refine wpList_storeC (off := 6) (p := [.slice W nw wc]) (by kernel_rfl) rfl (.tmp 150) (.tmp 149) rfl (.slice W nw wc) rfl (fun z hz => by rw [List.mem_singleton.1 hz]; rfl) CR2.out rfl (by rw [kcells_length]; simp) (by first | rfl | go_simp) (by first | rfl | go_simp) ?_; intro w3 h3 g3; have C3 := Lib.hid (show CB w3 w1.heap.size 26 (kcells ({ m with t := u }) W wc S sc) by rw [← HNW.out] at h3; exact h3); have G3 := Lib.hid (none_new GR2.out g3 (Nat.le_refl _)); have K3 := Lib.hid (KR2.out.otherU g3 CR2.out (kcells_u8 _ _ _ _ _)); have RV3 := Lib.hid (RV2.out.otherU g3 CR2.out (kcells_u8 _ _ _ _ _)); clear h3 g3))
              go_roundw
              case rel => exact ⟨6 + 1, by go_num, by omega, by rw [HC1.out]; go_num, by rw [HC1.out, HMS.out, HPK.out]; exact Reading.all C3.out ⟨RV3.out, K3.out.2⟩ ⟨HVB.out, OR.out.2⟩, by rw [HC1.out]; exact GD.out.succ HF.out HTA.out HNO.out, by rw [HC1.out]; exact HJ1.out, G3.out⟩
              case measure => first | (simp [intOf]; done) | (simp [intOf]; omega)
            · have HTT : t = 38 := by omega
              subst HTT
              obtain rfl : tg = 38 := HTG.out
              have HNO := Lib.hid (show numOk (38, u) = true from numOk_not (by omega))
              have HPK := Lib.hid (show putK m (38, u) = { m with sl := u } from rfl)
              clear hq2 ht
              go_wp2_with (first
                | (go_at_call 26; refine (refHas_any _ _ _).mono ?_; rintro r wn ⟨rfl, gn⟩; rw [HCT.out]; have HGX := Lib.hid (grown_trans' HGX.out gn); have HBZX := Lib.hid (HBZX.out.kept gn); have k1 := ((below_of_none gn).cell (p := ⟨b, off + j * 2, none⟩) HBR.out).trans K1.out; have k2 := ((below_of_none gn).cell (p := ⟨b, off + j * 2 + 1, none⟩) HBR.out).trans K2.out; have RV2 := Lib.hid (RVr.out.keptB gn); have s1 := run_strB byteT Tryd.underlying9 (RVr.out.keptB gn); rw [HNW.out] at s1; have GR2 := Lib.hid (grown_trans' GR.out gn); have CR2 := Lib.hid (CR.out.kept gn); have KR2 := Lib.hid (KR.out.keptK gn); clear gn)
                | (go_at_call 25; have hrd := refRead_any W u wc _ _ RV2.out; rw [HNW.out, HQ2.out] at hrd; refine hrd.mono ?_; rintro e wq ⟨rfl, rfl⟩; clear hrd)
                | (refine wpList_storeC (off := 7) (p := [.slice W nw wc]) (by kernel_rfl) rfl (.tmp 154) (.tmp 153) rfl (.slice W nw wc) rfl (fun z hz => by rw [List.mem_singleton.1 hz]; rfl) CR2.out rfl (by rw [kcells_length]; simp) (by first | rfl | go_simp) (by first | rfl | go_simp) ?_; intro w3 h3 g3; have C3 := Lib.hid (show CB w3 w1.heap.size 26 (kcells ({ m with sl := u }) T tc W wc) by rw [← HNW.out] at h3; exact h3); have G3 := Lib.hid (none_new GR2.out g3 (Nat.le_refl _)); have K3 := Lib.hid (KR2.out.otherU g3 CR2.out (kcells_u8 _ _ _ _ _)); have RV3 := Lib.hid (RV2.out.otherU g3 CR2.out (kcells_u8 _ _ _ _ _)); clear h3 g3))
              go_roundw
              case rel => exact ⟨7 + 1, by go_num, by omega, by rw [HC1.out]; go_num, by rw [HC1.out, HMS.out, HPK.out]; exact Reading.all C3.out ⟨K3.out.1, RV3.out⟩ ⟨OR.out.1, HVB.out⟩, by rw [HC1.out]; exact GD.out.succ HF.out HTA.out HNO.out, by rw [HC1.out]; exact HJ1.out, G3.out⟩
              case measure => first | (simp [intOf]; done) | (simp [intOf]; omega)
            · have HTT : t = 39 := by omega
              subst HTT
              obtain rfl : tg = 39 := HTG.out
              clear hq2 ht
              cases rb with
              | false =>
                have HRN := Lib.hid (show readsK l = false by
                  cases hr : readsK l with
                  | false => rfl
                  | true =>
                    obtain ⟨f, hf, -, ho⟩ := (HFC.out hr).2.1 j (by rw [HFN.out]; exact HJL.out)
                    rw [HF.out] at hf
                    injection hf with hf
                    subst hf
                    rw [numOk_num (by omega), HQ2.out] at ho
                    simp at ho)
                go_wp2_with (first
                  | (go_at_call 26; refine (refHas_any _ _ _).mono ?_; rintro r wn ⟨rfl, gn⟩; rw [HCT.out]; have HGX := Lib.hid (grown_trans' HGX.out gn); have HBZX := Lib.hid (HBZX.out.kept gn); have k1 := ((below_of_none gn).cell (p := ⟨b, off + j * 2, none⟩) HBR.out).trans K1.out; have k2 := ((below_of_none gn).cell (p := ⟨b, off + j * 2 + 1, none⟩) HBR.out).trans K2.out; have RV2 := Lib.hid (RVr.out.keptB gn); have s1 := run_strB byteT Tryd.underlying9 (RVr.out.keptB gn); rw [HNW.out] at s1; have GR2 := Lib.hid (grown_trans' GR.out gn); have CR2 := Lib.hid (CR.out.kept gn); have KR2 := Lib.hid (KR.out.keptK gn); clear gn)
                  | (go_at_call 25; have hrd := refRead_any W u wc _ _ RV2.out; rw [HNW.out, HQ2.out] at hrd; refine hrd.mono ?_; rintro e wq ⟨rfl, rfl⟩; clear hrd)
                  | (refine wpList_storeC (off := 0) (p := kZero) aggKr.hi rfl (.tmp 2) (.tmp 122) rfl _ (by first | rfl | kernel_rfl) kZero_one HBZX.out rfl (by rw [kZeroL]; omega) (by first | rfl | go_simp) rfl ?_; intro wz hz gz; rw [over_all _ _ (Nat.le_refl _)] at hz; have GZ := Lib.hid (none_new HGX.out gz (Nat.le_refl _)); have CZ := Lib.hid hz; clear hz gz))
                exact bodyPost_ret (results_C2 rfl _ aggKr CZ.out rfl rfl rfl) rfl (RdK.no (HRN.out) GZ.out rfl)

              | true =>
                by_cases hq40 : q2 ≤ 1099511627776
                · have HNO := Lib.hid (show numOk (39, u) = true by rw [numOk_num (by omega), HQ2.out]; simpa using hq40)
                  have HI2 := Lib.hid (i64w_sm hq40).1
                  have HPK := Lib.hid (show putK m (39, u) = { m with co := (q2 : Int) } from by have := HI2.out; unfold putK; rw [HQ2.out]; show { m with co := i64w q2 } = _; rw [this])
                  have hq40i : (q2 : Int) ≤ 1099511627776 := by omega
                  have hq40n : ¬ 1099511627776 < q2 := by omega
                  have hq40m : ¬ (1099511627776 : Int) < (q2 : Int) := by omega
                  clear hq40
                  go_wp2_with (first
                    | (go_at_call 26; refine (refHas_any _ _ _).mono ?_; rintro r wn ⟨rfl, gn⟩; rw [HCT.out]; have HGX := Lib.hid (grown_trans' HGX.out gn); have HBZX := Lib.hid (HBZX.out.kept gn); have k1 := ((below_of_none gn).cell (p := ⟨b, off + j * 2, none⟩) HBR.out).trans K1.out; have k2 := ((below_of_none gn).cell (p := ⟨b, off + j * 2 + 1, none⟩) HBR.out).trans K2.out; have RV2 := Lib.hid (RVr.out.keptB gn); have s1 := run_strB byteT Tryd.underlying9 (RVr.out.keptB gn); rw [HNW.out] at s1; have GR2 := Lib.hid (grown_trans' GR.out gn); have CR2 := Lib.hid (CR.out.kept gn); have KR2 := Lib.hid (KR.out.keptK gn); clear gn)
                    | (go_at_call 25; have hrd := refRead_any W u wc _ _ RV2.out; rw [HNW.out, HQ2.out] at hrd; refine hrd.mono ?_; rintro e wq ⟨rfl, rfl⟩; clear hrd)
                    | (refine wpList_storeC (off := 8) (p := [.int .i64 (q2 : Int)]) (by kernel_rfl) rfl (.tmp 159) (.tmp 158) rfl (.int .i64 (q2 : Int)) rfl (fun z hz => by rw [List.mem_singleton.1 hz]; rfl) CR2.out rfl (by rw [kcells_length]; simp) (by first | rfl | go_simp) (by first | rfl | go_simp) ?_; intro w3 h3 g3; have C3 := Lib.hid (show CB w3 w1.heap.size 26 (kcells ({ m with co := (q2 : Int) }) T tc S sc) from h3); have G3 := Lib.hid (none_new GR2.out g3 (Nat.le_refl _)); have K3 := Lib.hid (KR2.out.otherU g3 CR2.out (kcells_u8 _ _ _ _ _)); have RV3 := Lib.hid (RV2.out.otherU g3 CR2.out (kcells_u8 _ _ _ _ _)); clear h3 g3))
                  go_roundw
                  case rel => exact ⟨8 + 1, by go_num, by omega, by rw [HC1.out]; go_num, by rw [HC1.out, HMS.out, HPK.out]; exact Reading.all C3.out K3.out OR.out, by rw [HC1.out]; exact GD.out.succ HF.out HTA.out HNO.out, by rw [HC1.out]; exact HJ1.out, G3.out⟩
                  case measure => first | (simp [intOf]; done) | (simp [intOf]; omega)

                · have hq40i : (1099511627776 : Int) < (q2 : Int) := by omega
                  have hq40n : 1099511627776 < q2 := by omega
                  have HRN := Lib.hid (show readsK l = false by
                    cases hr : readsK l with
                    | false => rfl
                    | true =>
                      obtain ⟨f, hf, -, ho⟩ := (HFC.out hr).2.1 j (by rw [HFN.out]; exact HJL.out)
                      rw [HF.out] at hf
                      injection hf with hf
                      subst hf
                      rw [numOk_num (by omega), HQ2.out] at ho
                      simp at ho; omega)
                  clear hq40
                  go_wp2_with (first
                    | (go_at_call 26; refine (refHas_any _ _ _).mono ?_; rintro r wn ⟨rfl, gn⟩; rw [HCT.out]; have HGX := Lib.hid (grown_trans' HGX.out gn); have HBZX := Lib.hid (HBZX.out.kept gn); have k1 := ((below_of_none gn).cell (p := ⟨b, off + j * 2, none⟩) HBR.out).trans K1.out; have k2 := ((below_of_none gn).cell (p := ⟨b, off + j * 2 + 1, none⟩) HBR.out).trans K2.out; have RV2 := Lib.hid (RVr.out.keptB gn); have s1 := run_strB byteT Tryd.underlying9 (RVr.out.keptB gn); rw [HNW.out] at s1; have GR2 := Lib.hid (grown_trans' GR.out gn); have CR2 := Lib.hid (CR.out.kept gn); have KR2 := Lib.hid (KR.out.keptK gn); clear gn)
                    | (go_at_call 25; have hrd := refRead_any W u wc _ _ RV2.out; rw [HNW.out, HQ2.out] at hrd; refine hrd.mono ?_; rintro e wq ⟨rfl, rfl⟩; clear hrd)
                    | (refine wpList_storeC (off := 0) (p := kZero) aggKr.hi rfl (.tmp 2) (.tmp 122) rfl _ (by first | rfl | kernel_rfl) kZero_one HBZX.out rfl (by rw [kZeroL]; omega) (by first | rfl | go_simp) rfl ?_; intro wz hz gz; rw [over_all _ _ (Nat.le_refl _)] at hz; have GZ := Lib.hid (none_new HGX.out gz (Nat.le_refl _)); have CZ := Lib.hid hz; clear hz gz))
                  exact bodyPost_ret (results_C2 rfl _ aggKr CZ.out rfl rfl rfl) rfl (RdK.no (HRN.out) GZ.out rfl)
          · have htg1 : (tg == t) = false := by simpa using htg
            have HRN := Lib.hid (show readsK l = false by
              cases hr : readsK l with
              | false => rfl
              | true =>
                obtain ⟨f, hf, hta, -⟩ := (HFC.out hr).2.1 j (by rw [HFN.out]; exact HJL.out)
                rw [HF.out] at hf
                injection hf with hf
                subst hf
                rw [HTA.out] at hta
                injection hta with hta
                exact absurd hta.symm htg)
            clear htg hq2
            go_wp2_with (first
              | (go_at_call 26; refine (refHas_any _ _ _).mono ?_; rintro r wn ⟨rfl, gn⟩; rw [HCT.out]; have HGX := Lib.hid (grown_trans' HGX.out gn); have HBZX := Lib.hid (HBZX.out.kept gn); have k1 := ((below_of_none gn).cell (p := ⟨b, off + j * 2, none⟩) HBR.out).trans K1.out; have k2 := ((below_of_none gn).cell (p := ⟨b, off + j * 2 + 1, none⟩) HBR.out).trans K2.out; have RV2 := Lib.hid (RVr.out.keptB gn); have s1 := run_strB byteT Tryd.underlying9 (RVr.out.keptB gn); rw [HNW.out] at s1; have GR2 := Lib.hid (grown_trans' GR.out gn); have CR2 := Lib.hid (CR.out.kept gn); have KR2 := Lib.hid (KR.out.keptK gn); clear gn)
              | (refine wpList_storeC (off := 0) (p := kZero) aggKr.hi rfl (.tmp 2) (.tmp 81) rfl _ (by first | rfl | kernel_rfl) kZero_one HBZX.out rfl (by rw [kZeroL]; omega) (by first | rfl | go_simp) rfl ?_; intro wz hz gz; rw [over_all _ _ (Nat.le_refl _)] at hz; have GZ := Lib.hid (none_new HGX.out gz (Nat.le_refl _)); have CZ := Lib.hid hz; clear hz gz))
            exact bodyPost_ret (results_C2 rfl _ aggKr CZ.out rfl rfl rfl) rfl (RdK.no (HRN.out) GZ.out rfl)
        · have hjl1 : fn ≤ j := by omega
          have hjl2 : ¬ j < fn := hjl
          have HRN := Lib.hid (show readsK l = false by
            cases hr : readsK l with
            | false => rfl
            | true =>
              have h1 := (HFC.out hr).1
              rw [HFN.out] at h1
              have h2 := (List.getElem?_eq_some_iff.1 HTA.out).1
              omega)
          clear hjl
          go_wp2_with (first
            | (go_at_call 26; refine (refHas_any _ _ _).mono ?_; rintro r wn ⟨rfl, gn⟩; rw [HCT.out]; have HGX := Lib.hid (grown_trans' HGX.out gn); have HBZX := Lib.hid (HBZX.out.kept gn); clear gn)
            | (refine wpList_storeC (off := 0) (p := kZero) aggKr.hi rfl (.tmp 2) (.tmp 81) rfl _ (by first | rfl | kernel_rfl) kZero_one HBZX.out rfl (by rw [kZeroL]; omega) (by first | rfl | go_simp) rfl ?_; intro wz hz gz; rw [over_all _ _ (Nat.le_refl _)] at hz; have GZ := Lib.hid (none_new HGX.out gz (Nat.le_refl _)); have CZ := Lib.hid hz; clear hz gz))
          exact bodyPost_ret (results_C2 rfl _ aggKr CZ.out rfl rfl rfl) rfl (RdK.no (HRN.out) GZ.out rfl)
    · obtain rfl : k = 9 := by omega
      have H9 := Lib.hid (show j = (tagsK kd).length by rw [← HJ.out, cntK_nine H1.out H7.out])
      rw [show ((9 : Nat) : Int) = 9 from rfl]
      clear hlt hk
      by_cases hjn : j = fn
      · have hfm : foldK FS = m := by rw [← Hm.out, ← HALL.out, HFN.out, hjn]
        have HRD := Lib.hid (show readsK l = okK m by
          rw [← hfm]
          refine HOF.out ?_ ?_
          · rw [HFN.out, ← hjn]; exact H9.out
          · rw [HFN.out, ← hjn]; exact GD.out)
        rw [hfm] at H64 HLN
        have HFM := Lib.hid hfm
        have hjn1 : (j == fn) = true := by simpa using hjn
        have hjn2 : ((j : Int) == (fn : Int)) = true := by simp; omega
        have hjn3 : ((j : Int) != (fn : Int)) = false := by simp; omega
        have TK1 := Lib.hid True.intro
        obtain ⟨ok, hok⟩ : ∃ b, okK m = b := ⟨_, rfl⟩
        have HOK := Lib.hid hok
        clear hjn hfm hok
        cases ok with
        | false =>
          go_wp2_with (first
            | (have hx := TK1; clear hx; refine wpList_loadCg (off := 0) (p := kcells m T tc S sc) aggKr (by first | rfl | go_simp) (.tmp 8) rfl CR.out rfl (Nat.le_refl _) (by first | rfl | go_simp) ?_)
            | (go_at_call 27; refine (refRight_any m T tc S sc _ H64.out.1 H64.out.2.1 H64.out.2.2 HLN.out.1.1 HLN.out.1.2.1).mono ?_; rw [HOK.out]; rintro e wn ⟨rfl, gn⟩; have HGX := Lib.hid (grown_trans' HGX.out gn); have HBZX := Lib.hid (HBZX.out.kept gn); have CR2 := Lib.hid (CR.out.kept gn); have KR2 := Lib.hid (KR.out.keptK gn); clear gn TK1; have TK2 := Lib.hid True.intro)
            | (refine wpList_storeC (off := 0) (p := kZero) aggKr.hi rfl (.tmp 2) (.tmp 171) rfl _ (by first | rfl | kernel_rfl) kZero_one HBZX.out rfl (by rw [kZeroL]; omega) (by first | rfl | go_simp) rfl ?_; intro wz hz gz; rw [over_all _ _ (Nat.le_refl _)] at hz; have GZ := Lib.hid (none_new HGX.out gz (Nat.le_refl _)); have CZ := Lib.hid hz; clear hz gz))
          exact bodyPost_ret (results_C2 rfl _ aggKr CZ.out rfl rfl rfl) rfl (RdK.no (by rw [HRD.out]; exact HOK.out) GZ.out rfl)
        | true =>
          go_wp2_with (first
            | (have hx := TK1; clear hx; refine wpList_loadCg (off := 0) (p := kcells m T tc S sc) aggKr (by first | rfl | go_simp) (.tmp 8) rfl CR.out rfl (Nat.le_refl _) (by first | rfl | go_simp) ?_)
            | (go_at_call 27; refine (refRight_any m T tc S sc _ H64.out.1 H64.out.2.1 H64.out.2.2 HLN.out.1.1 HLN.out.1.2.1).mono ?_; rw [HOK.out]; rintro e wn ⟨rfl, gn⟩; have HGX := Lib.hid (grown_trans' HGX.out gn); have HBZX := Lib.hid (HBZX.out.kept gn); have CR2 := Lib.hid (CR.out.kept gn); have KR2 := Lib.hid (KR.out.keptK gn); clear gn TK1; have TK2 := Lib.hid True.intro)
            | (have hx := TK2; clear hx; refine wpList_loadC (off := 0) (p := kcells m T tc S sc) aggKr rfl (.tmp 8) rfl CR2.out rfl (Nat.le_refl _) (by first | rfl | go_simp) ?_)
            | (refine wpList_storeC (off := 0) (p := kcells m T tc S sc) aggKr.hi rfl (.tmp 2) (.tmp 172) rfl (.agg (kcells m T tc S sc).toArray) rfl (kcells_one _ _ _ _ _) HBZX.out rfl (Nat.le_refl _) (by first | rfl | go_simp) rfl ?_; intro wz hz gz; rw [over_all _ _ (show kZero.length ≤ (kcells m T tc S sc).length from Nat.le_refl 9)] at hz; have GZ := Lib.hid (none_new HGX.out gz (Nat.le_refl _)); have CZ := Lib.hid hz; have KZ := Lib.hid (KR2.out.otherU gz HBZX.out (kcells_u8 _ _ _ _ _)); clear hz gz))
          exact bodyPost_ret (results_C2 rfl _ aggKr CZ.out rfl rfl rfl) rfl (by rw [HFM.out]; exact RdK.yes (ok := readsK l) (by rw [HRD.out]; exact HOK.out) GZ.out rfl KZ.out OR.out.1 OR.out.2)
      · have HRN := Lib.hid (show readsK l = false by
          cases hr : readsK l with
          | false => rfl
          | true =>
            have h1 := (HFC.out hr).1
            rw [HFN.out] at h1
            have h2 := H9.out
            omega)
        have hjn1 : (j == fn) = false := by simpa using hjn
        have hjn2 : ((j : Int) == (fn : Int)) = false := by simp; omega
        have hjn3 : ((j : Int) != (fn : Int)) = true := by simp; omega
        clear hjn
        go_wp2_with (first
          | (refine wpList_storeC (off := 0) (p := kZero) aggKr.hi rfl (.tmp 2) (.tmp 171) rfl _ (by first | rfl | kernel_rfl) kZero_one HBZX.out rfl (by rw [kZeroL]; omega) (by first | rfl | go_simp) rfl ?_; intro wz hz gz; rw [over_all _ _ (Nat.le_refl _)] at hz; have GZ := Lib.hid (none_new HGX.out gz (Nat.le_refl _)); have CZ := Lib.hid hz; clear hz gz))
        exact bodyPost_ret (results_C2 rfl _ aggKr CZ.out rfl rfl rfl) rfl (RdK.no (HRN.out) GZ.out rfl)
end Go.Proofs.YtnfmbgmncdodkaaDoor
