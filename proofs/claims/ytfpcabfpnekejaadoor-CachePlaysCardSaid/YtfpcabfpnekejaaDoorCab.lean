/- The walks of cache's isRight, apart, New, Find, Servers. -/
import Derived.Test.YtfpcabfpnekejaaDoorCaa
import Derived.Test.YtfpcabfpnekejaaDoorBsi
namespace Go.Proofs.YtfpcabfpnekejaaDoor
open Go.RowKit Go.Maps Go.WideMaps

theorem aggGc : AggT Tryd.prog 36 21 := ⟨fun _ => by kernel_rfl, by kernel_rfl⟩
def rightC (x : Cd) : Bool := parses x.cl && gOk x.sv x.st x.en x.fl
set_option maxRecDepth 10000 in
set_option maxHeartbeats 1000000 in
theorem cisRight_any (p : Ce) (h : cdOk p.1) (w : World) (hM : ML w) : Calls Tryd.prog 16 #[.agg (ceC p).toArray] w fun e w' => e = .returned (.bool (rightC p.1)) ∧ w.grownBy w' none := by
  have HO := Lib.hid h
  have HL := Lib.hid (show p.1.cl.length ≤ 1000000 from Nat.le_trans h.lc (by omega))
  have HLC := Lib.hid (show (ceC p).length = 23 from cdC_length h.w.lk _ _)
  have HM0 := Lib.hid hM
  have HM := Lib.hid (show ML (w.alloc (.cells (ceC p).toArray 38)) from hM.below ((Below.refl _ _).alloc (Nat.le_refl _) _))
  have HB0 := Lib.hid (CB.new w 38 (ceC p))
  have HG := Lib.hid (grown_alloc w (.cells (ceC p).toArray 38) none)
  have q0 := HB0.out.at_ (cdC_cl p.1 p.2.1 p.2.2)
  obtain ⟨r, hr⟩ : ∃ r, r = rightC p.1 := ⟨_, rfl⟩
  rw [← hr]
  have HR := Lib.hid hr
  clear h hM hr
  cases hp : parses p.1.cl with
  | false =>
    have HP := Lib.hid hp
    have HRR := Lib.hid (show r = false by rw [HR.out, rightC, hp, Bool.false_and])
    clear hp
    go_enter Tryd.func16, Tryd.ntmps16
    go_wp2_with (first
    | (go_at_call 26; refine (parse_any _ p.1.cl rfl _ HM.out HL.out).mono ?_; intro r w1 h1; rw [Parsed, if_neg (by rw [HP.out]; simp)] at h1; obtain ⟨rfl, hb⟩ := h1; have G1 := Lib.hid (none_of_below hb (Nat.le_refl _)); have TK1 := Lib.hid True.intro; clear hb)
    | (have hx := TK1; refine wpList_allocC zeroN_run rfl rfl ?_; clear hx TK1; have TK2 := Lib.hid True.intro)
    | (have hx := TK2; refine wpList_storeC (off := 0) (p := [.slice none 0 0, .string ⟨#[]⟩]) aggN.hi rfl (.tmp 3) (.tmp 11) rfl _ rfl (nm_one _ _ _ _) (CB.new w1 66 zeroN) rfl (Nat.le_refl _) (by first | rfl | go_simp) rfl ?_; clear hx TK2; intro w4 h4 g4; have G4' := Lib.hid (none_new (grown_trans' G1.out (grown_alloc w1 _ none)) g4 G1.out.size); have B4 := Lib.hid (HB0.out.kept G4'.out); have G4 := Lib.hid (grown_trans' HG.out G4'.out); have TK3 := Lib.hid True.intro; clear h4 g4 q0))
    go_ret
    rw [HRR.out]
    exact ⟨rfl, G4.out⟩
  | true =>
    have HP := Lib.hid hp
    clear hp
    cases hg : gOk p.1.sv p.1.st p.1.en p.1.fl with
    | false =>
      have HGO := Lib.hid hg
      have HRR := Lib.hid (show r = false by rw [HR.out, rightC, hg, Bool.and_false])
      clear hg
      go_enter Tryd.func16, Tryd.ntmps16
      go_wp2_with (first
    | (go_at_call 26; refine (parse_any _ p.1.cl rfl _ HM.out HL.out).mono ?_; intro r w1 h1; rw [Parsed, if_pos HP.out] at h1; obtain ⟨g, n, ls, nr, rfl, -, -, -, -, -, -, hb⟩ := h1; have G1 := Lib.hid (none_of_below hb (Nat.le_refl _)); have TK1 := Lib.hid True.intro; clear hb)
    | (have hx := TK1; refine wpList_allocC zeroN_run rfl rfl ?_; clear hx TK1; have TK2 := Lib.hid True.intro)
    | (have hx := TK2; refine wpList_storeC (off := 0) (p := [.slice (some ⟨g, 0, none⟩) n n, .string nr]) aggN.hi rfl (.tmp 3) (.tmp 11) rfl _ rfl (nm_one _ _ _ _) (CB.new w1 66 zeroN) rfl (Nat.le_refl _) (by first | rfl | go_simp) rfl ?_; clear hx TK2; intro w4 h4 g4; have G4' := Lib.hid (none_new (grown_trans' G1.out (grown_alloc w1 _ none)) g4 G1.out.size); have B4 := Lib.hid (HB0.out.kept G4'.out); have G4 := Lib.hid (grown_trans' HG.out G4'.out); have TK3 := Lib.hid True.intro; clear h4 g4 q0)
    | (have hx := TK3; refine wpList_loadC (off := 2) (p := grC p.1) aggGc rfl (.tmp 16) rfl B4.out (cdC_gr HO.out.w.lk _ _) (by rw [HLC.out]; omega) (by first | rfl | go_simp) ?_; clear hx TK3)
    | (go_at_call 27; refine (gwrite_any _ p.1.sv p.1.ky p.1.st p.1.en p.1.fl p.1.no _ (HM0.out.below (below_of_none G4.out)) rfl HO.out.w.lk (by have := HO.out.ls; omega) HO.out.w.no).mono ?_; rintro r w5 ⟨g5, h5⟩; rw [HGO.out] at h5; rw [if_neg (by simp)] at h5; subst h5; have G5 := Lib.hid (grown_trans' G4.out g5); clear g5))
      go_ret
      rw [HRR.out]
      exact ⟨rfl, G5.out⟩
    | true =>
      have HGO := Lib.hid hg
      have HRR := Lib.hid (show r = true by rw [HR.out, rightC, hg, HP.out]; rfl)
      clear hg
      go_enter Tryd.func16, Tryd.ntmps16
      go_wp2_with (first
    | (go_at_call 26; refine (parse_any _ p.1.cl rfl _ HM.out HL.out).mono ?_; intro r w1 h1; rw [Parsed, if_pos HP.out] at h1; obtain ⟨g, n, ls, nr, rfl, -, -, -, -, -, -, hb⟩ := h1; have G1 := Lib.hid (none_of_below hb (Nat.le_refl _)); have TK1 := Lib.hid True.intro; clear hb)
    | (have hx := TK1; refine wpList_allocC zeroN_run rfl rfl ?_; clear hx TK1; have TK2 := Lib.hid True.intro)
    | (have hx := TK2; refine wpList_storeC (off := 0) (p := [.slice (some ⟨g, 0, none⟩) n n, .string nr]) aggN.hi rfl (.tmp 3) (.tmp 11) rfl _ rfl (nm_one _ _ _ _) (CB.new w1 66 zeroN) rfl (Nat.le_refl _) (by first | rfl | go_simp) rfl ?_; clear hx TK2; intro w4 h4 g4; have G4' := Lib.hid (none_new (grown_trans' G1.out (grown_alloc w1 _ none)) g4 G1.out.size); have B4 := Lib.hid (HB0.out.kept G4'.out); have G4 := Lib.hid (grown_trans' HG.out G4'.out); have TK3 := Lib.hid True.intro; clear h4 g4 q0)
    | (have hx := TK3; refine wpList_loadC (off := 2) (p := grC p.1) aggGc rfl (.tmp 16) rfl B4.out (cdC_gr HO.out.w.lk _ _) (by rw [HLC.out]; omega) (by first | rfl | go_simp) ?_; clear hx TK3)
    | (go_at_call 27; refine (gwrite_any _ p.1.sv p.1.ky p.1.st p.1.en p.1.fl p.1.no _ (HM0.out.below (below_of_none G4.out)) rfl HO.out.w.lk (by have := HO.out.ls; omega) HO.out.w.no).mono ?_; rintro r w5 ⟨g5, h5⟩; rw [HGO.out] at h5; rw [if_pos rfl] at h5; obtain ⟨v5, rfl, -⟩ := h5; have G5 := Lib.hid (grown_trans' G4.out g5); clear g5))
      go_ret
      rw [HRR.out]
      exact ⟨rfl, G5.out⟩

theorem RB.apartC {w w' : World} {r : Option Nat} {A : Option Addr} {l : List UInt8} {c : Nat} (h : RB w w.heap.size A l c) (hg : w.grownBy w' r) (ha : ∀ a, A = some a → l = [] ∨ r ≠ some a.block) : RB w' w'.heap.size A l c := by
  refine ⟨h.1, h.2.1, h.2.2.imp id fun ⟨a, hA, hc⟩ => ⟨a, hA, fun k u hu => ?_⟩⟩
  obtain ⟨hb, hcell⟩ := hc k u hu
  refine ⟨Nat.lt_of_lt_of_le hb hg.size, ?_⟩
  have hne : r ≠ some a.block := by
    rcases ha a hA with rfl | h1
    · simp at hu
    · exact h1
  have hblk := hg.block a.block hb (fun e => hne e.symm)
  rw [← hcell]
  unfold World.cell?
  rw [show (a.add k).block = a.block from add_block _ _, hblk]
theorem szSC : (Tryd.prog.info? 9).map (·.size) = some 1 := by kernel_rfl
theorem szBC : (Tryd.prog.info? 31).map (·.size) = some 1 := by kernel_rfl
theorem over_cl (x : Cd) (A : Option Addr) (c : Nat) : over (cdC x A c) 0 [.string ⟨x.cl.toArray⟩] = cdC x A c := rfl
theorem over_tk (x : Cd) (A A' : Option Addr) (c c' : Nat) : over (cdC x A c) 1 [.slice A' x.tk.length c'] = cdC x A' c' := rfl
theorem over_sv (x : Cd) (A : Option Addr) (c : Nat) : over (cdC x A c) 2 [.string ⟨x.sv.toArray⟩] = cdC x A c := rfl
/-- A copy of a ticket. -/
def ApartC (w : World) (x : Cd) (e : Ending) (w' : World) : Prop := ∃ A' c', e = .returned (.agg (cdC x A' c').toArray) ∧ RB w' w'.heap.size A' x.tk c' ∧ (∀ a, A' = some a → w.heap.size ≤ a.block) ∧ w.grownBy w' none
set_option maxRecDepth 10000 in
set_option maxHeartbeats 2000000 in
theorem capart_any (x : Cd) (A : Option Addr) (c : Nat) (h : cdOk x) (w : World) (hT : RB w w.heap.size A x.tk c) : Calls Tryd.prog 20 #[.agg (cdC x A c).toArray] w (ApartC w x) := by
  have HO := Lib.hid h
  have HL := Lib.hid (cdC_length h.w.lk A c)
  have HL2 := Lib.hid (fun A' c' => (cdC_length h.w.lk A' c' : (cdC x A' c').length = 23))
  have HS1 := Lib.hid (show (⟨x.cl.toArray⟩ : ByteArray).size ≤ 1000000 by show x.cl.toArray.size ≤ _; rw [List.size_toArray]; have := h.lc; omega)
  have HS2 := Lib.hid (show (⟨x.sv.toArray⟩ : ByteArray).size ≤ 1000000 by show x.sv.toArray.size ≤ _; rw [List.size_toArray]; have := h.ls; omega)
  have HB0 := Lib.hid ((CB.new w 38 (cdC x A c)).alloc (.cells (ceC zeroCe).toArray 38))
  have HZ0 := Lib.hid (CB.new1 w (.cells (cdC x A c).toArray 38) 38 (ceC zeroCe))
  have HG := Lib.hid (grown_trans' (grown_alloc w (.cells (cdC x A c).toArray 38) none) (grown_alloc _ (.cells (ceC zeroCe).toArray 38) none))
  have HT := Lib.hid hT
  have HWZ := Lib.hid (show ((w.alloc (.cells (cdC x A c).toArray 38)).alloc (.cells (ceC zeroCe).toArray 38)).heap.size = w.heap.size + 2 by rw [World.size_alloc, World.size_alloc])
  have q0 := HB0.out.at_ (cdC_cl x A c)
  have TK0 := Lib.hid True.intro
  clear h hT
  go_enter Tryd.func20, Tryd.ntmps20
  go_wp2_with (first
    | (have hx := TK0; refine wpList_allocC zeroC_run rfl rfl ?_; clear hx TK0; have TK1 := Lib.hid True.intro)
    | (have hx := TK1; go_at_call 25; refine (sclone_any _ _ HS1.out).mono ?_; rintro r w1 ⟨rfl, hb1⟩; have G1' := Lib.hid (none_of_below hb1 (Nat.le_refl _)); have B1 := Lib.hid (HB0.out.kept G1'.out); have Z1 := Lib.hid (HZ0.out.kept G1'.out); have G1 := Lib.hid (grown_trans' HG.out G1'.out); have SZ1 := Lib.hid (show w.heap.size + 2 ≤ w1.heap.size from Nat.le_trans (Nat.le_of_eq HWZ.out.symm) G1'.out.size); clear hb1 q0 hx TK1; have TK2 := Lib.hid True.intro)
    | (have hx := TK2; refine wpList_storeC (off := 0) (p := [.string ⟨x.cl.toArray⟩]) szSC rfl (.tmp 6) (.tmp 5) rfl (.string ⟨x.cl.toArray⟩) rfl (fun u hu => by rw [List.mem_singleton.1 hu]; rfl) B1.out rfl (by rw [HL.out]; omega) (by first | rfl | go_simp) (by first | rfl | go_simp) ?_; intro w2 h2 g2; rw [over_cl] at h2; have B2 := Lib.hid h2; have Z2 := Lib.hid (Z1.out.grown g2 (by omega)); have G2 := Lib.hid (none_new G1.out g2 (Nat.le_refl _)); have SZ2 := Lib.hid (Nat.le_trans SZ1.out g2.size)
       have T2 := Lib.hid ((HT.out.kept G2.out (Nat.le_refl _)).more G2.out.size)
       have q1 := B2.out.at_ (cdC_tk x A c); clear h2 g2 hx TK2; have TK3 := Lib.hid True.intro)
    | (have hx := TK3; go_at_call 28; refine (clone_any A x.tk c _ _ rfl T2.out (by have := HO.out.lt; omega)).mono ?_; rintro r w3 ⟨A', c', rfl, ho3, hb3⟩; obtain ⟨A3, c3, hv3, hr3, hl3⟩ := ho3.shape; injection hv3 with e1 e2 e3; subst e1; subst e3; have R3 := Lib.hid hr3; have L3 := Lib.hid hl3; have G3' := Lib.hid (none_of_below hb3 (Nat.le_refl _)); have B3 := Lib.hid (B2.out.kept G3'.out); have Z3 := Lib.hid (Z2.out.kept G3'.out); have G3 := Lib.hid (grown_trans' G2.out G3'.out); clear hb3 ho3 e2 hr3 hl3 q1 hx TK3; have TK4 := Lib.hid True.intro)
    | (have hx := TK4; refine wpList_storeC (off := 1) (p := [.slice A' x.tk.length c']) szBC rfl (.tmp 10) (.tmp 9) rfl (.slice A' x.tk.length c') rfl (fun u hu => by rw [List.mem_singleton.1 hu]; rfl) B3.out rfl (by rw [HL.out]; omega) (by first | rfl | go_simp) (by first | rfl | go_simp) ?_; intro w4 h4 g4; rw [over_tk] at h4; have B4 := Lib.hid h4; have Z4 := Lib.hid (Z3.out.grown g4 (by omega)); have G4 := Lib.hid (none_new G3.out g4 (Nat.le_refl _))
       have R4 := Lib.hid (R3.out.apartC g4 (fun a ha => .inr (fun e => by have h1 := L3.out a ha; have h2 := SZ2.out; injection e with e; omega)))
       have q2 := B4.out.at_ (cdC_sv x A' c'); clear h4 g4 hx TK4; have TK5 := Lib.hid True.intro)
    | (have hx := TK5; go_at_call 25; refine (sclone_any _ _ HS2.out).mono ?_; rintro r w5 ⟨rfl, hb5⟩; have G5' := Lib.hid (none_of_below hb5 (Nat.le_refl _)); have B5 := Lib.hid (B4.out.kept G5'.out); have Z5 := Lib.hid (Z4.out.kept G5'.out); have R5 := Lib.hid (R4.out.row_ G5'.out); have G5 := Lib.hid (grown_trans' G4.out G5'.out); clear hb5 q2 hx TK5; have TK6 := Lib.hid True.intro)
    | (have hx := TK6; refine wpList_storeC (off := 2) (p := [.string ⟨x.sv.toArray⟩]) szSC rfl (.tmp 16) (.tmp 14) rfl (.string ⟨x.sv.toArray⟩) rfl (fun u hu => by rw [List.mem_singleton.1 hu]; rfl) B5.out rfl (by rw [HL2.out]; omega) (by first | rfl | go_simp) (by first | rfl | go_simp) ?_; intro w6 h6 g6; rw [over_sv] at h6; have B6 := Lib.hid h6; have Z6 := Lib.hid (Z5.out.grown g6 (by omega)); have G6 := Lib.hid (none_new G5.out g6 (Nat.le_refl _))
       have R6 := Lib.hid (R5.out.apartC g6 (fun a ha => .inr (fun e => by have h1 := L3.out a ha; have h2 := SZ2.out; injection e with e; omega)))
       clear h6 g6 hx TK6; have TK7 := Lib.hid True.intro)
    | (have hx := TK7; refine wpList_loadC (off := 0) (p := cdC x A' c') aggC rfl (.tmp 1) rfl B6.out (take_all (HL2.out A' c')) (by rw [HL2.out]; omega) (by first | rfl | go_simp) ?_; clear hx TK7; have TK8 := Lib.hid True.intro)
    | (have hx := TK8; refine wpList_storeC (off := 0) (p := cdC x A' c') aggC.hi rfl (.tmp 2) (.tmp 17) rfl (.agg (cdC x A' c').toArray) rfl (cdC_one _ _ _) Z6.out (HL2.out A' c') (by rw [zeroCe_length]; omega) (by first | rfl | go_simp) (by first | rfl | go_simp) ?_; intro w7 h7 g7; rw [over_all _ _ (Nat.le_of_eq (by rw [zeroCe_length, HL2.out]))] at h7; have C7 := Lib.hid h7; have G7 := Lib.hid (none_new G6.out g7 (Nat.le_succ _))
       have R7 := Lib.hid (R6.out.apartC g7 (fun a ha => .inr (fun e => by have h1 := L3.out a ha; have h2 := SZ2.out; injection e with e; omega)))
       clear h7 g7 hx TK8))
  refine bodyPost_ret (results_C1 rfl _ aggC C7.out (HL2.out A' c') rfl) rfl ⟨A', c', rfl, R7.out, fun a ha => ?_, G7.out⟩
  have h1 := L3.out a ha
  have h2 := SZ2.out
  omega

/-- A Cache lies in block c, its map in block b. -/
def KS (w : World) (c b : Nat) (M : Cm) : Prop := CB w c 52 [.map (some b)] ∧ MT Tryd.prog 9 strV ceV w b M ∧ c ≠ b ∧ CmOk w b M
theorem KS.none {w w' : World} {c b : Nat} {M : Cm} (h : KS w c b M) (hg : w.grownBy w' none) : KS w' c b M := ⟨h.1.kept hg, h.2.1.none hg, h.2.2.1, h.2.2.2.none hg⟩
theorem KS.lt {w : World} {c b : Nat} {M : Cm} (h : KS w c b M) : c < w.heap.size ∧ b < w.heap.size := ⟨h.1.lt, h.2.1.lt⟩
theorem KS.map {w w' : World} {c b : Nat} {M M' : Cm} (h : KS w c b M) (hM : MT Tryd.prog 9 strV ceV w' b M') (hg : w.grownBy w' (some b)) (hs : ∀ p ∈ M', p ∈ M) : KS w' c b M' :=
  ⟨h.1.grown hg h.2.2.1, hM, h.2.2.1, h.2.2.2.map hg hs⟩

theorem cnew_any (w : World) : Calls Tryd.prog 6 #[] w fun e w' => e = .returned (.pointer (some ⟨w.heap.size + 1, 0, none⟩)) ∧ KS w' (w.heap.size + 1) w.heap.size [] ∧ w.grownBy w' none := by
  have hmm := @run_makeMap Tryd.prog
  have HC := Lib.hid (CB.new1 w (.map #[] 0) 52 [.map (some w.heap.size)])
  have HM := Lib.hid ((MT.made (P := Tryd.prog) (k := 9) (kv := strV) (vv := ceV) w).alloc (.cells #[.map (some w.heap.size)] 52))
  have HG := Lib.hid (grown_trans' (grown_alloc w (.map #[] 0) none) (grown_alloc (w.alloc (.map #[] 0)) (.cells #[.map (some w.heap.size)] 52) none))
  go_enter Tryd.func6, Tryd.ntmps6
  go_wp2
  go_ret
  exact ⟨rfl, ⟨HC.out, HM.out, by omega, fun a h => by cases h⟩, HG.out⟩

/-- A ticket that is found. -/
def FoundC (w : World) (x : Cd) (e : Ending) (w' : World) : Prop := ∃ A' c', e = .returned (.tuple #[.agg (cdC x A' c').toArray, .bool true]) ∧ RB w' w'.heap.size A' x.tk c' ∧ (∀ a, A' = some a → w.heap.size ≤ a.block) ∧ w.grownBy w' none
set_option maxRecDepth 10000 in
set_option maxHeartbeats 2000000 in
theorem cfind_in (n : List UInt8) (hn : n.length ≤ 1000) (now : Int) (w : World) (c b : Nat) (M : Cm) (h : KS w c b M) (p : Ce) (hin : (n, p) ∈ M) (ho : decide (p.1.en < now) = false) :
    Calls Tryd.prog 11 #[.pointer (some ⟨c, 0, none⟩), strV n, .int .i64 now] w (FoundC w p.1) := by
  have HOK := Lib.hid (okS n (by omega))
  have HKS := Lib.hid h
  have HLZ := Lib.hid zeroCe_length
  have TK0 := Lib.hid True.intro
  have HIN := Lib.hid hin
  have HOV := Lib.hid ho
  have HO := Lib.hid (h.2.2.2 _ hin).2.1
  have HT := Lib.hid (h.2.2.2 _ hin).2.2
  have HKY := Lib.hid HO.out.w.lk
  have HLV := Lib.hid (show (ceC p).length = 23 from cdC_length HO.out.w.lk _ _)
  have HL2 := Lib.hid (fun A' c' => (cdC_length HO.out.w.lk A' c' : (cdC p.1 A' c').length = 23))
  clear h hn hin ho
  go_enter Tryd.func11, Tryd.ntmps11
  go_wp2_with (first
    | (have hx := TK0; refine wpList_allocC zeroC_run rfl rfl ?_; clear hx TK0; have TK1 := Lib.hid True.intro; have HZ := Lib.hid (CB.new w 38 (ceC zeroCe)); have HG0 := Lib.hid (grown_alloc w (.cells (ceC zeroCe).toArray 38) none); have S0 := Lib.hid (HKS.out.none HG0.out); have q0 := S0.out.1.at_ (i := 0) rfl)
    | (have hx := TK1; refine wpList_lookIn keyedS strV_inj rfl _ _ rfl Tryd.underlying50 zeroC_run S0.out.2.1 rfl n p rfl HIN.out ?_; clear hx TK1; have TK2 := Lib.hid True.intro)
    | (have hx := TK2; refine wpList_allocC zeroC_run rfl rfl ?_; clear hx TK2; have TK3 := Lib.hid True.intro; have HN1 := Lib.hid (CB.new1 w (.cells (ceC zeroCe).toArray 38) 38 (ceC zeroCe)); have HZ1 := Lib.hid (HZ.out.alloc (.cells (ceC zeroCe).toArray 38)); have HG1 := Lib.hid (grown_trans' HG0.out (grown_alloc _ (.cells (ceC zeroCe).toArray 38) none)); clear q0)
    | (have hx := TK3; refine wpList_storeC (off := 0) (p := ceC p) aggC.hi rfl (.tmp 8) (.tmp 17) rfl (.agg (ceC p).toArray) rfl (cdC_one _ _ _) HN1.out HLV.out (by rw [HLZ.out]; omega) (by first | rfl | go_simp) (by first | rfl | go_simp) ?_; clear hx TK3; intro w2 h2 g2; rw [over_all _ _ (by first | exact Nat.le_refl _ | exact Nat.le_of_eq (by rw [HLZ.out, HLV.out]))] at h2; have B2 := Lib.hid h2; have Z2 := Lib.hid (HZ1.out.grown g2 (by simp)); have G2 := Lib.hid (none_new HG1.out g2 (by simp)); have TK4 := Lib.hid True.intro; clear h2 g2)
    | (have hx := TK4; refine wpList_loadCg (off := 0) (p := ceC p) aggC (by first | rfl | go_simp) (.tmp 8) rfl B2.out (take_all HLV.out) (by rw [HLV.out]; omega) (by first | rfl | go_simp) ?_; clear hx TK4; have TK5 := Lib.hid True.intro)
    | (go_at_call 17; refine (isOver_any p HKY.out now _).mono ?_; rintro r w3 ⟨rfl, g3⟩; rw [HOV.out]; have B3 := Lib.hid (B2.out.kept g3); have Z3 := Lib.hid (Z2.out.kept g3); have G3 := Lib.hid (grown_trans' G2.out g3); clear g3)
    | (have hx := TK5; refine wpList_loadC (off := 0) (p := ceC p) aggC rfl (.tmp 8) rfl B3.out (take_all HLV.out) (by rw [HLV.out]; omega) (by first | rfl | go_simp) ?_; clear hx TK5)
    | (go_at_call 20; refine (capart_any p.1 p.2.1 p.2.2 HO.out _ (HT.out.none G3.out).1).mono ?_; rintro r w4 ⟨A', c', rfl, hr4, hl4, g4⟩; have R4 := Lib.hid hr4; have L4 := Lib.hid hl4; have Z4 := Lib.hid (Z3.out.kept g4); have G4 := Lib.hid (grown_trans' G3.out g4); have TK6 := Lib.hid True.intro; clear hr4 hl4 g4)
    | (have hx := TK6; refine wpList_storeC (off := 0) (p := cdC p.1 A' c') aggC.hi rfl (.tmp 6) (.tmp 28) rfl (.agg (cdC p.1 A' c').toArray) rfl (cdC_one _ _ _) Z4.out (HL2.out A' c') (by rw [HLZ.out]; omega) (by first | rfl | go_simp) (by first | rfl | go_simp) ?_; clear hx TK6; intro w5 h5 g5; rw [over_all _ _ (Nat.le_of_eq (by rw [HLZ.out, HL2.out]))] at h5; have C5 := Lib.hid h5; have G5 := Lib.hid (none_new G4.out g5 (Nat.le_refl _))
       have R5 := Lib.hid (R4.out.apartC g5 (fun a ha => .inr (fun e => by have h1 := L4.out a ha; have h2 := Z3.out.lt; injection e with e; omega))); clear h5 g5))
  refine bodyPost_ret (results_C2 rfl _ aggC C5.out (HL2.out A' c') rfl rfl) rfl ⟨A', c', rfl, R5.out, fun a ha => ?_, G5.out⟩
  have h1 := L4.out a ha
  have h2 := G3.out.size
  omega

set_option maxRecDepth 10000 in
set_option maxHeartbeats 2000000 in
theorem cfind_out (n : List UInt8) (hn : n.length ≤ 1000) (now : Int) (w : World) (c b : Nat) (M : Cm) (h : KS w c b M) (ho : ∀ p, (n, p) ∈ M → decide (p.1.en < now) = true) :
    Calls Tryd.prog 11 #[.pointer (some ⟨c, 0, none⟩), strV n, .int .i64 now] w fun e w' => e = .returned (.tuple #[.agg (ceC zeroCe).toArray, .bool false]) ∧ w.grownBy w' none := by
  have HOK := Lib.hid (okS n (by omega))
  have HKS := Lib.hid h
  have HLZ := Lib.hid zeroCe_length
  have TK0 := Lib.hid True.intro
  by_cases hin : n ∈ keysM M
  · obtain ⟨p, hp⟩ := mem_keysM.1 hin
    have HIN := Lib.hid hp
    have HOV := Lib.hid (ho p hp)
    have HKY := Lib.hid (h.2.2.2 _ hp).2.1.w.lk
    have HLV := Lib.hid (show (ceC p).length = 23 from cdC_length HKY.out _ _)
    clear h hn hin ho hp
    go_enter Tryd.func11, Tryd.ntmps11
    go_wp2_with (first
    | (have hx := TK0; refine wpList_allocC zeroC_run rfl rfl ?_; clear hx TK0; have TK1 := Lib.hid True.intro; have HZ := Lib.hid (CB.new w 38 (ceC zeroCe)); have HG0 := Lib.hid (grown_alloc w (.cells (ceC zeroCe).toArray 38) none); have S0 := Lib.hid (HKS.out.none HG0.out); have q0 := S0.out.1.at_ (i := 0) rfl)
    | (have hx := TK1; refine wpList_lookIn keyedS strV_inj rfl _ _ rfl Tryd.underlying50 zeroC_run S0.out.2.1 rfl n p rfl HIN.out ?_; clear hx TK1; have TK2 := Lib.hid True.intro)
    | (have hx := TK2; refine wpList_allocC zeroC_run rfl rfl ?_; clear hx TK2; have TK3 := Lib.hid True.intro; have HN1 := Lib.hid (CB.new1 w (.cells (ceC zeroCe).toArray 38) 38 (ceC zeroCe)); have HZ1 := Lib.hid (HZ.out.alloc (.cells (ceC zeroCe).toArray 38)); have HG1 := Lib.hid (grown_trans' HG0.out (grown_alloc _ (.cells (ceC zeroCe).toArray 38) none)); clear q0)
    | (have hx := TK3; refine wpList_storeC (off := 0) (p := ceC p) aggC.hi rfl (.tmp 8) (.tmp 17) rfl (.agg (ceC p).toArray) rfl (cdC_one _ _ _) HN1.out HLV.out (by rw [HLZ.out]; omega) (by first | rfl | go_simp) (by first | rfl | go_simp) ?_; clear hx TK3; intro w2 h2 g2; rw [over_all _ _ (by first | exact Nat.le_refl _ | exact Nat.le_of_eq (by rw [HLZ.out, HLV.out]))] at h2; have B2 := Lib.hid h2; have Z2 := Lib.hid (HZ1.out.grown g2 (by simp)); have G2 := Lib.hid (none_new HG1.out g2 (by simp)); have TK4 := Lib.hid True.intro; clear h2 g2)
    | (have hx := TK4; refine wpList_loadCg (off := 0) (p := ceC p) aggC (by first | rfl | go_simp) (.tmp 8) rfl B2.out (take_all HLV.out) (by rw [HLV.out]; omega) (by first | rfl | go_simp) ?_; clear hx TK4; have TK5 := Lib.hid True.intro)
    | (go_at_call 17; refine (isOver_any p HKY.out now _).mono ?_; rintro r w3 ⟨rfl, g3⟩; rw [HOV.out]; have B3 := Lib.hid (B2.out.kept g3); have Z3 := Lib.hid (Z2.out.kept g3); have G3 := Lib.hid (grown_trans' G2.out g3); clear g3)
    | (have hx := TK5; refine wpList_storeC (off := 0) (p := ceC zeroCe) aggC.hi rfl (.tmp 6) (.tmp 26) rfl (.agg (ceC zeroCe).toArray) rfl (cdC_one _ _ _) Z3.out HLZ.out (by rw [HLZ.out]; omega) (by first | rfl | go_simp) (by first | rfl | go_simp) ?_; clear hx TK5; intro w4 h4 g4; rw [over_all _ _ (Nat.le_refl _)] at h4; have C4 := Lib.hid h4; have G4 := Lib.hid (none_new G3.out g4 (Nat.le_refl _)); clear h4 g4))
    refine bodyPost_ret (results_C2 rfl _ aggC C4.out HLZ.out rfl rfl) rfl ⟨rfl, G4.out⟩
  · have HIN := Lib.hid hin
    clear h hn hin ho
    go_enter Tryd.func11, Tryd.ntmps11
    go_wp2_with (first
    | (have hx := TK0; refine wpList_allocC zeroC_run rfl rfl ?_; clear hx TK0; have TK1 := Lib.hid True.intro; have HZ := Lib.hid (CB.new w 38 (ceC zeroCe)); have HG0 := Lib.hid (grown_alloc w (.cells (ceC zeroCe).toArray 38) none); have S0 := Lib.hid (HKS.out.none HG0.out); have q0 := S0.out.1.at_ (i := 0) rfl)
    | (have hx := TK1; refine wpList_lookOut keyedS strV_inj rfl _ _ rfl Tryd.underlying50 zeroC_run S0.out.2.1 rfl n HOK.out rfl HIN.out ?_; clear hx TK1; have TK2 := Lib.hid True.intro)
    | (have hx := TK2; refine wpList_allocC zeroC_run rfl rfl ?_; clear hx TK2; have TK3 := Lib.hid True.intro; have HN1 := Lib.hid (CB.new1 w (.cells (ceC zeroCe).toArray 38) 38 (ceC zeroCe)); have HZ1 := Lib.hid (HZ.out.alloc (.cells (ceC zeroCe).toArray 38)); have HG1 := Lib.hid (grown_trans' HG0.out (grown_alloc _ (.cells (ceC zeroCe).toArray 38) none)); clear q0)
    | (have hx := TK3; refine wpList_storeC (off := 0) (p := ceC zeroCe) aggC.hi rfl (.tmp 8) (.tmp 17) rfl (.agg (ceC zeroCe).toArray) rfl (cdC_one _ _ _) HN1.out HLZ.out (by rw [HLZ.out]; omega) (by first | rfl | go_simp) (by first | rfl | go_simp) ?_; clear hx TK3; intro w2 h2 g2; rw [over_all _ _ (by first | exact Nat.le_refl _ | exact Nat.le_of_eq (by rw [HLZ.out, HLZ.out]))] at h2; have B2 := Lib.hid h2; have Z2 := Lib.hid (HZ1.out.grown g2 (by simp)); have G2 := Lib.hid (none_new HG1.out g2 (by simp)); have TK4 := Lib.hid True.intro; clear h2 g2)
    | (have hx := TK4; refine wpList_storeC (off := 0) (p := ceC zeroCe) aggC.hi rfl (.tmp 6) (.tmp 26) rfl (.agg (ceC zeroCe).toArray) rfl (cdC_one _ _ _) Z2.out HLZ.out (by rw [HLZ.out]; omega) (by first | rfl | go_simp) (by first | rfl | go_simp) ?_; clear hx TK4; intro w4 h4 g4; rw [over_all _ _ (Nat.le_refl _)] at h4; have C4 := Lib.hid h4; have G4 := Lib.hid (none_new G2.out g4 (Nat.le_refl _)); clear h4 g4))
    refine bodyPost_ret (results_C2 rfl _ aggC C4.out HLZ.out rfl rfl) rfl ⟨rfl, G4.out⟩
end Go.Proofs.YtfpcabfpnekejaaDoor
