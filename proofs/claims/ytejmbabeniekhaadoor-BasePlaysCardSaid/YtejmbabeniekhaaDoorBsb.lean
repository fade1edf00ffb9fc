/- The small walks of base: clones, isRight, New, Drop, Get. -/
import Derived.Test.YtejmbabeniekhaaDoorBsa
import Derived.Test.YtejmbabeniekhaaDoorShf
import Derived.Shelf.Strconv.Clone
namespace Go.Proofs.YtejmbabeniekhaaDoor
open Go.RowKit Go.Maps Go.WideMaps

theorem szS : (Tryd.prog.info? 9).map (·.size) = some 1 := by kernel_rfl
theorem en_sz {e : En} (h : enOk e) : (⟨e.1.toArray⟩ : ByteArray).size ≤ 1000 := by have := h.ln; show e.1.toArray.size ≤ 1000; rw [List.size_toArray]; exact this

set_option maxRecDepth 10000 in
set_option maxHeartbeats 1000000 in
theorem apart_any (e : En) (he : enOk e) (w : World) : Calls Tryd.prog 57 #[.agg (enC e).toArray] w fun r w' => r = .returned (.agg (enC e).toArray) ∧ w.grownBy w' none := by
  have HOE := Lib.hid he
  have HLE := Lib.hid (enC_length he.lk)
  have HLZ := Lib.hid (enC_length (e := zeroEn) (zeros_length 16))
  have HB0 := Lib.hid ((CB.new w 51 (enC e)).alloc (.cells (enC zeroEn).toArray 51))
  have HB1 := Lib.hid (CB.new1 w (.cells (enC e).toArray 51) 51 (enC zeroEn))
  have HG := Lib.hid (grown_trans' (grown_alloc w (.cells (enC e).toArray 51) none) (grown_alloc _ (.cells (enC zeroEn).toArray 51) none))
  have q0 := HB0.out.at_ (enC_name e)
  have HSZ := Lib.hid (show (⟨e.1.toArray⟩ : ByteArray).size ≤ 1000000 from Nat.le_trans (en_sz he) (by omega))
  have HWN := Lib.hid (Nat.le_refl w.heap.size)
  clear he
  go_enter Tryd.func57, Tryd.ntmps57
  go_wp2_with (first
    | refine wpList_allocC zeroE_run rfl rfl ?_
    | (go_at_call 69; refine (sclone_any _ _ HSZ.out).mono ?_; rintro r w1 ⟨rfl, hb1⟩; have G1' := Lib.hid (none_of_below hb1 (Nat.le_refl _)); have B0 := Lib.hid (HB0.out.kept G1'.out); have B1 := Lib.hid (HB1.out.kept G1'.out); have G1 := Lib.hid (grown_trans' HG.out G1'.out); clear hb1 q0)
    | (refine wpList_storeC (off := 0) (p := [.string ⟨e.1.toArray⟩]) szS rfl (.tmp 6) (.tmp 5) rfl (.string ⟨e.1.toArray⟩) rfl (fun x hx => by rw [List.mem_singleton.1 hx]; rfl) B0.out rfl (by rw [HLE.out]; omega) (by first | rfl | go_simp) (by first | rfl | go_simp) ?_; intro w2 h2 g2; have B2 := Lib.hid (show CB w2 w.heap.size 51 (enC e) from h2); have C2 := Lib.hid (B1.out.grown g2 (by simp)); have G2 := Lib.hid (none_new G1.out g2 HWN.out); clear h2 g2)
    | (refine wpList_loadC (off := 0) (p := enC e) aggE rfl (.tmp 1) rfl B2.out (take_all HLE.out) (by rw [HLE.out]; omega) (by first | rfl | go_simp) ?_)
    | (refine wpList_storeC (off := 0) (p := enC e) aggE.hi rfl (.tmp 2) (.tmp 7) rfl (.agg (enC e).toArray) rfl (enC_one e) C2.out HLE.out (by rw [HLZ.out]; omega) (by first | rfl | go_simp) (by first | rfl | go_simp) ?_; intro w3 h3 g3; rw [over_all _ _ (Nat.le_of_eq (by rw [HLE.out, HLZ.out]))] at h3; have C3 := Lib.hid h3; have G3 := Lib.hid (none_new G2.out g3 (by simp)); clear h3 g3))
  refine bodyPost_ret (results_C1 rfl _ aggE C3.out HLE.out rfl) rfl ⟨rfl, G3.out⟩

set_option maxRecDepth 10000 in
set_option maxHeartbeats 2000000 in
theorem isRight_any (e : En) (he : enOk e) (w : World) (hM : ML w) : Calls Tryd.prog 56 #[.agg (enC e).toArray] w fun r w' => r = .returned (.bool (rightE e)) ∧ w.grownBy w' none := by
  have HL := Lib.hid (show e.1.length ≤ 1000000 from Nat.le_trans he.ln (by omega))
  have HM := Lib.hid (show ML (w.alloc (.cells (enC e).toArray 51)) from hM.below ((Below.refl _ _).alloc (Nat.le_refl _) _))
  have HB0 := Lib.hid (CB.new w 51 (enC e))
  have HG := Lib.hid (grown_alloc w (.cells (enC e).toArray 51) none)
  obtain ⟨l, hl⟩ : ∃ l, l = e.2.2.1 := ⟨_, rfl⟩
  obtain ⟨f, hf⟩ : ∃ f, f = e.2.2.2.1 := ⟨_, rfl⟩
  have HLI := Lib.hid (show (enC e)[17]? = some (.int .i64 l) by rw [hl]; exact enC_life he.lk)
  have HFL := Lib.hid (show (enC e)[18]? = some (.int .i64 f) by rw [hf]; exact enC_flags he.lk)
  have q0 := HB0.out.at_ (enC_name e)
  obtain ⟨r, hr⟩ : ∃ r, r = rightE e := ⟨_, rfl⟩
  rw [← hr]
  have HR := Lib.hid (show r = (parses e.1 && (decide (1 ≤ l) && decide (l ≤ 1099511627776) && (decide (f = 0) || decide (f = 1)))) by rw [hr, hl, hf]; rfl)
  clear he hM hr hl hf
  cases hp : parses e.1 with
  | false =>
    have HP := Lib.hid hp
    have HRR := Lib.hid (show r = false by rw [HR.out, hp, Bool.false_and])
    clear hp
    go_enter Tryd.func56, Tryd.ntmps56
    go_wp2_with (first
        | (go_at_call 77; refine (parse_any _ e.1 rfl _ HM.out HL.out).mono ?_; intro r w1 h1; rw [Parsed, if_neg (by rw [HP.out]; simp)] at h1; obtain ⟨rfl, hb⟩ := h1; have G1 := Lib.hid (none_of_below hb (Nat.le_refl _)); have TK1 := Lib.hid True.intro; clear hb)
        | (have hx := TK1; clear hx TK1; refine wpList_allocC zeroN_run rfl rfl ?_; have TK2 := Lib.hid True.intro)
        | (have hx := TK2; clear hx TK2; refine wpList_storeC (off := 0) (p := [.slice none 0 0, .string ⟨#[]⟩]) aggN.hi rfl (.tmp 3) (.tmp 9) rfl _ rfl (nm_one _ _ _ _) (CB.new w1 138 zeroN) rfl (Nat.le_refl _) (by first | rfl | go_simp) rfl ?_; intro w4 h4 g4; have G4' := Lib.hid (none_new (grown_trans' G1.out (grown_alloc w1 _ none)) g4 G1.out.size); have B4 := Lib.hid (HB0.out.kept G4'.out); have G4 := Lib.hid (grown_trans' HG.out G4'.out); have p1 := B4.out.at_ HLI.out; have p2 := B4.out.at_ HFL.out; clear h4 g4 q0))
    go_ret
    rw [HRR.out]
    exact ⟨rfl, G4.out⟩
  | true =>
    have HP := Lib.hid hp
    clear hp
    go_enter Tryd.func56, Tryd.ntmps56
    go_wp2_with (first
        | (go_at_call 77; refine (parse_any _ e.1 rfl _ HM.out HL.out).mono ?_; intro r w1 h1; rw [Parsed, if_pos HP.out] at h1; obtain ⟨g, n, ls, nr, rfl, -, -, -, -, -, -, hb⟩ := h1; have G1 := Lib.hid (none_of_below hb (Nat.le_refl _)); have TK1 := Lib.hid True.intro; clear hb)
        | (have hx := TK1; clear hx TK1; refine wpList_allocC zeroN_run rfl rfl ?_; have TK2 := Lib.hid True.intro)
        | (have hx := TK2; clear hx TK2; refine wpList_storeC (off := 0) (p := [.slice (some ⟨g, 0, none⟩) n n, .string nr]) aggN.hi rfl (.tmp 3) (.tmp 9) rfl _ rfl (nm_one _ _ _ _) (CB.new w1 138 zeroN) rfl (Nat.le_refl _) (by first | rfl | go_simp) rfl ?_; intro w4 h4 g4; have G4' := Lib.hid (none_new (grown_trans' G1.out (grown_alloc w1 _ none)) g4 G1.out.size); have B4 := Lib.hid (HB0.out.kept G4'.out); have G4 := Lib.hid (grown_trans' HG.out G4'.out); have p1 := B4.out.at_ HLI.out; have p2 := B4.out.at_ HFL.out; clear h4 g4 q0))
    all_goals
      go_ret
      refine ⟨?_, G4.out⟩
      rw [HR.out, HP.out]
      refine congrArg (fun b => Ending.returned (Value.bool b)) ?_
      first | (simp [*]; done) | (simp [*]; omega) | (simp [*]; rfl) | (rw [Bool.eq_iff_iff]; simp [*])

/-- A Base lies in block c, its map in block b. -/
def BS (w : World) (c b : Nat) (M : Em) : Prop :=
  CB w c 110 [.map (some b)] ∧ MT Tryd.prog 9 strV enV w b M ∧ c ≠ b ∧ EmOk M
theorem BS.none {w w' : World} {c b : Nat} {M : Em} (h : BS w c b M) (hg : w.grownBy w' none) : BS w' c b M := ⟨h.1.kept hg, h.2.1.none hg, h.2.2⟩
theorem BS.far {w w' : World} {c b g : Nat} {M : Em} (h : BS w c b M) (hg : w.grownBy w' (some g)) (h1 : g ≠ c) (h2 : g ≠ b) : BS w' c b M :=
  ⟨h.1.grown hg (fun e => h1 e.symm), h.2.1.kept hg (fun e => h2 (by injection e with e; exact e.symm)), h.2.2⟩
theorem BS.lt {w : World} {c b : Nat} {M : Em} (h : BS w c b M) : c < w.heap.size ∧ b < w.heap.size := ⟨h.1.lt, h.2.1.lt⟩

theorem bnew_any (w : World) : Calls Tryd.prog 21 #[] w fun e w' => e = .returned (.pointer (some ⟨w.heap.size + 1, 0, none⟩)) ∧ BS w' (w.heap.size + 1) w.heap.size [] ∧ w.grownBy w' none := by
  have hmm := @run_makeMap Tryd.prog
  have HC := Lib.hid (CB.new1 w (.map #[] 0) 110 [.map (some w.heap.size)])
  have HM := Lib.hid ((MT.made (P := Tryd.prog) (k := 9) (kv := strV) (vv := enV) w).alloc (.cells #[.map (some w.heap.size)] 110))
  have HG := Lib.hid (grown_trans' (grown_alloc w (.map #[] 0) none) (grown_alloc (w.alloc (.map #[] 0)) (.cells #[.map (some w.heap.size)] 110) none))
  go_enter Tryd.func21, Tryd.ntmps21
  go_wp2
  go_ret
  exact ⟨rfl, ⟨HC.out, HM.out, by omega, fun a h => by cases h⟩, HG.out⟩

set_option maxRecDepth 10000 in
set_option maxHeartbeats 1000000 in
theorem drop_any (n : List UInt8) (hn : n.length ≤ 1000) (w : World) (c b : Nat) (M : Em) (h : BS w c b M) (B : Bool) (hB : B = true ↔ n ∈ keysM M) :
    Calls Tryd.prog 22 #[.pointer (some ⟨c, 0, none⟩), strV n] w fun e w' => e = .returned (.bool B) ∧ BS w' c b (withoutM M n) ∧ w.grownBy w' (some b) := by
  have HOK := Lib.hid (okS n (by omega))
  have q0 : w.cell? ⟨c, 0, none⟩ = some (.map (some b)) := h.1.at_ rfl
  have HBS := Lib.hid h
  have HLZ := Lib.hid (enC_length (e := zeroEn) (zeros_length 16))
  by_cases hin : n ∈ keysM M
  · obtain ⟨v, hv⟩ := mem_keysM.1 hin
    obtain rfl : B = true := hB.2 hin
    have HV := Lib.hid hv
    have HLV := Lib.hid (enC_length (h.2.2.2 _ hv).2.lk)
    clear h hn hin hv hB
    go_enter Tryd.func22, Tryd.ntmps22
    go_wp2_with (first
      | refine wpList_lookIn keyedS strV_inj rfl _ _ rfl Tryd.underlying108 zeroE_run HBS.out.2.1 rfl n v rfl HV.out ?_
      | (refine wpList_allocC zeroE_run rfl rfl ?_; have HN1 := Lib.hid (CB.new w 51 (enC zeroEn)); have HG1 := Lib.hid (grown_alloc w (.cells (enC zeroEn).toArray 51) none))
      | (refine wpList_storeC (off := 0) (p := enC v) aggE.hi rfl (.tmp 5) (.tmp 14) rfl (.agg (enC v).toArray) rfl (enC_one v) HN1.out HLV.out (by rw [HLZ.out]; omega) (by first | rfl | go_simp) (by first | rfl | go_simp) ?_; intro w2 h2 g2; have G2 := Lib.hid (none_new HG1.out g2 (Nat.le_refl _)); have S2 := Lib.hid (HBS.out.none G2.out); have q1 := S2.out.1.at_ (i := 0) rfl; clear h2 g2 q0)
      | (refine wpList_delM keyedS strV_inj rfl _ _ rfl Tryd.underlying108 S2.out.2.1 rfl n HOK.out rfl ?_; intro w3 hM3 hT3))
    go_ret
    exact ⟨rfl, ⟨S2.out.1.grown hT3.grown S2.out.2.2.1, hM3, S2.out.2.2.1, S2.out.2.2.2.sub n⟩, grown_trans' (grown_some G2.out b) hT3.grown⟩
  · obtain rfl : B = false := by
      cases B with
      | false => rfl
      | true => exact absurd (hB.1 rfl) hin
    have HIN := Lib.hid hin
    clear h hn hin hB
    go_enter Tryd.func22, Tryd.ntmps22
    go_wp2_with (first
      | refine wpList_lookOut keyedS strV_inj rfl _ _ rfl Tryd.underlying108 zeroE_run HBS.out.2.1 rfl n HOK.out rfl HIN.out ?_
      | (refine wpList_allocC zeroE_run rfl rfl ?_; have HN1 := Lib.hid (CB.new w 51 (enC zeroEn)); have HG1 := Lib.hid (grown_alloc w (.cells (enC zeroEn).toArray 51) none))
      | (refine wpList_storeC (off := 0) (p := enC zeroEn) aggE.hi rfl (.tmp 5) (.tmp 14) rfl (.agg (enC zeroEn).toArray) rfl (enC_one zeroEn) HN1.out HLZ.out (by rw [HLZ.out]; omega) (by first | rfl | go_simp) (by first | rfl | go_simp) ?_; intro w2 h2 g2; have G2 := Lib.hid (none_new HG1.out g2 (Nat.le_refl _)); have S2 := Lib.hid (HBS.out.none G2.out); have q1 := S2.out.1.at_ (i := 0) rfl; clear h2 g2 q0)
      | (refine wpList_delM keyedS strV_inj rfl _ _ rfl Tryd.underlying108 S2.out.2.1 rfl n HOK.out rfl ?_; intro w3 hM3 hT3))
    go_ret
    exact ⟨rfl, ⟨S2.out.1.grown hT3.grown S2.out.2.2.1, hM3, S2.out.2.2.1, S2.out.2.2.2.sub n⟩, grown_trans' (grown_some G2.out b) hT3.grown⟩

end Go.Proofs.YtejmbabeniekhaaDoor
