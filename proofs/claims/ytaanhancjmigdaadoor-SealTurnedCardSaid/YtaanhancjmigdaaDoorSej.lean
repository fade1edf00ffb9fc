/- By sums: turn, sumOf. -/
import Derived.Test.YtaanhancjmigdaaDoorMDer
import Derived.Test.YtaanhancjmigdaaDoorMEq
import Derived.Test.YtaanhancjmigdaaDoorAC
import Derived.Test.YtaanhancjmigdaaDoorSei
namespace Go.Proofs.YtaanhancjmigdaaDoor
open Go.RowKit Go.Maps

/-- A use, as the number that keys are derived of. -/
def useN (u : Int) : Nat := (u % 18446744073709551616).toNat
theorem useN_lt (u : Int) : useN u < 18446744073709551616 := by unfold useN; omega
theorem useN_mod (u : Int) : u % 18446744073709551616 = (useN u : Int) := by unfold useN; omega
theorem useN_wrap (u : Int) : IntKind.u64.wrap u = (useN u : Int) := by
  rw [show IntKind.u64.wrap u = u % 18446744073709551616 by simp [IntKind.wrap, IntKind.bits, IntKind.signed]]
  exact useN_mod u
def sealL : List UInt8 := [115, 101, 97, 108]
def sumL : List UInt8 := [115, 117, 109]
/-- What a box's bytes are turned to. -/
def turnS (key : List UInt8) (u : Int) (n : Nat) (l : List UInt8) : List UInt8 := streamOf (keyed (deriveOf key sealL (useN u))) n l
theorem turnS_len (key : List UInt8) (u : Int) (n : Nat) (l : List UInt8) : (turnS key u n l).length = l.length := by unfold turnS; exact streamOf_length _ _ _
/-- A box's sum. -/
def sumS (key : List UInt8) (u : Int) (l : List UInt8) : List UInt8 := (macOf (deriveOf key sumL (useN u)) l).take 16
theorem sumS_len (key : List UInt8) (u : Int) (l : List UInt8) : (sumS key u l).length = 16 := by unfold sumS; rw [List.length_take, macOf_length]; rfl

set_option maxRecDepth 10000 in
set_option maxHeartbeats 1000000 in
theorem sturn_any (n : Nat) (key : List UInt8) (u : Int) (A : Option Addr) (l : List UInt8) (m cap : Nat) (w : World) (hT : TB w) (hk : key.length = 16) (hn : l.length = m) (h : RB w w.heap.size A l cap) (hm : m ≤ 100000) :
    Calls Tryd.prog 44 #[.int .u64 n, .agg (bcells key).toArray, .int .i64 u, .slice A m cap] w fun e w' => ∃ v, e = .returned v ∧ OwnB w' w.heap.size 5 v (turnS key u n l) ∧ w.grownBy w' none := by
  obtain ⟨q, hq⟩ : ∃ q, useN u = q := ⟨_, rfl⟩
  have hw0 := useN_wrap u
  have hw1 := useN_mod u
  rw [hq] at hw0 hw1
  have HQ := Lib.hid (show q < 18446744073709551616 by rw [← hq]; exact useN_lt u)
  obtain ⟨D, hD⟩ : ∃ D, deriveOf key sealL q = D := ⟨_, rfl⟩
  have HD := Lib.hid hD
  have HDL := Lib.hid (show D.length = 16 by rw [← hD, deriveOf_length])
  rw [show turnS key u n l = streamOf (keyed D) n l by unfold turnS; rw [hq, hD]]
  have HT := Lib.hid (hT.alloc (.cells (bcells key).toArray 23))
  have HK := Lib.hid hk
  have HN := Lib.hid hn
  have HM := Lib.hid hm
  have G0 := Lib.hid (grown_alloc w (.cells (bcells key).toArray 23) none)
  have H0 := Lib.hid h
  have K0 := Lib.hid (CB.new w 23 (bcells key))
  have LK := Lib.hid (show (bcells key).length = 16 by rw [bcells_length, hk])
  clear hT hk hn h hm hq hD
  have TK0 := Lib.hid True.intro
  go_enter Tryd.func44, Tryd.ntmps44
  go_wp2_with (first
    | (have hx := TK0; refine wpList_loadC (off := 0) (p := bcells key) aggKy rfl (.tmp 5) rfl K0.out (take_all LK.out) (by rw [LK.out]; omega) (by first | rfl | go_simp) ?_; clear hx TK0; have TK1 := Lib.hid True.intro)
    | (go_at_call 23; refine (derive_any key _ sealL q _ HT.out HK.out rfl (by decide) HQ.out).mono ?_; rintro e w1 ⟨rfl, g⟩; rw [HD.out]; have G1 := Lib.hid (grown_trans' G0.out g); clear g)
    | (go_at_call 56; refine (new_any D HDL.out _).mono ?_; rintro e w2 ⟨g, rfl, hb, hbel, hge⟩; have B2 := Lib.hid hb; have G2 := Lib.hid (grown_trans' G1.out (grown_of_below hbel none)); clear hb hbel hge)
    | (go_at_call 57; refine (stream_any g (keyed D) n A l cap m _ B2.out (keyed_length D HDL.out) HN.out (H0.out.keptS G2.out) (by have := HM.out; omega)).mono ?_; rintro e w3 ⟨v, rfl, o, hbel⟩; have O3 := Lib.hid (o.base_ G2.out.size); have G3 := Lib.hid (grown_trans' G2.out (grown_of_below hbel none)); clear o hbel))
  go_ret
  exact ⟨v, rfl, O3.out, G3.out⟩

theorem zeroS_run (w : World) : (zeroValue 22).run Tryd.prog w = .ok (.agg (bcells (zeros 16)).toArray) w := by kernel_rfl
theorem aggS16 : AggT Tryd.prog 22 16 := ⟨fun _ => by kernel_rfl, by kernel_rfl⟩

set_option maxRecDepth 10000 in
set_option maxHeartbeats 1000000 in
theorem sumOf_any (key : List UInt8) (u : Int) (A : Option Addr) (l : List UInt8) (m cap : Nat) (w : World) (hT : TB w) (hk : key.length = 16) (hn : l.length = m) (h : RB w w.heap.size A l cap) (hm : m ≤ 100000) :
    Calls Tryd.prog 45 #[.agg (bcells key).toArray, .int .i64 u, .slice A m cap] w fun e w' => e = .returned (.agg (bcells (sumS key u l)).toArray) ∧ w.grownBy w' none := by
  obtain ⟨q, hq⟩ : ∃ q, useN u = q := ⟨_, rfl⟩
  have hw0 := useN_wrap u
  have hw1 := useN_mod u
  rw [hq] at hw0 hw1
  have HQ := Lib.hid (show q < 18446744073709551616 by rw [← hq]; exact useN_lt u)
  obtain ⟨D, hD⟩ : ∃ D, deriveOf key sumL q = D := ⟨_, rfl⟩
  have HD := Lib.hid hD
  have HDL := Lib.hid (show D.length = 16 by rw [← hD, deriveOf_length])
  obtain ⟨M, hM⟩ : ∃ M, macOf D l = M := ⟨_, rfl⟩
  have HM := Lib.hid hM
  have LM := Lib.hid (show (bcells M).length = 32 by rw [bcells_length, ← hM, macOf_length])
  obtain ⟨S, hS⟩ : ∃ S, sumS key u l = S := ⟨_, rfl⟩
  have LS := Lib.hid (show (bcells S).length = 16 by rw [bcells_length, ← hS, sumS_len])
  have HS := Lib.hid (show ((bcells M).drop 0).take 16 = bcells S by rw [List.drop_zero, ← hS, ← hM, ← hD, ← hq, sumS]; simp [bcells])
  rw [hS]
  have HTT := Lib.hid hT
  have HT := Lib.hid ((hT.alloc (.cells (bcells key).toArray 23)).alloc (.cells (bcells (zeros 16)).toArray 22))
  have HK := Lib.hid hk
  have HN := Lib.hid hn
  have HL := Lib.hid hm
  have G0 := Lib.hid (grown_trans' (grown_alloc w (.cells (bcells key).toArray 23) none) (grown_alloc _ (.cells (bcells (zeros 16)).toArray 22) none))
  have H0 := Lib.hid h
  have K0 := Lib.hid ((CB.new w 23 (bcells key)).alloc (.cells (bcells (zeros 16)).toArray 22))
  have R0 := Lib.hid (CB.new1 w (.cells (bcells key).toArray 23) 22 (bcells (zeros 16)))
  have LK := Lib.hid (show (bcells key).length = 16 by rw [bcells_length, hk])
  have LD := Lib.hid (show (bcells D).length = 16 by rw [bcells_length, HDL.out])
  have LZ := Lib.hid (show (bcells (zeros 16)).length = 16 by rw [bcells_length, zeros_length])
  have LZ32 := Lib.hid (show (bcells (zeros 32)).length = 32 by rw [bcells_length, zeros_length])
  clear hT hk hn h hm hq hD hM hS
  have TK0 := Lib.hid True.intro
  go_enter Tryd.func45, Tryd.ntmps45
  go_wp2_with (first
    | refine wpList_allocC zeroS_run rfl rfl ?_
    | refine wpList_allocC zeroK_run rfl rfl ?_
    | refine wpList_allocC zeroB32 rfl rfl ?_
    | (have hx := TK0; refine wpList_loadC (off := 0) (p := bcells key) aggKy rfl (.tmp 3) rfl K0.out (take_all LK.out) (by rw [LK.out]; omega) (by first | rfl | go_simp) ?_; clear hx TK0; have TK1 := Lib.hid True.intro)
    | (go_at_call 23; refine (derive_any key _ sumL q _ HT.out HK.out rfl (by decide) HQ.out).mono ?_; rintro e w1 ⟨rfl, g⟩; rw [HD.out]; have R1 := Lib.hid (R0.out.kept g); have G1 := Lib.hid (grown_trans' G0.out g); clear g)
    | (have hx := TK1; refine wpList_storeC (off := 0) (p := bcells D) aggKy.hi rfl (.tmp 7) (.tmp 12) rfl (.agg (bcells D).toArray) rfl (bcells_one _) (CB.new w1 23 (bcells (zeros 16))) LD.out (by rw [LZ.out]; omega) (by first | rfl | go_simp) (by first | rfl | go_simp) ?_; intro w2 h2 g2; rw [over_all _ _ (Nat.le_of_eq (by rw [LZ.out, LD.out]))] at h2; have D2 := Lib.hid h2; have R2 := Lib.hid ((R1.out.alloc _).grown g2 (by have := R1.out.lt; omega)); have G2 := Lib.hid (none_new (grown_trans' G1.out (grown_alloc _ _ none)) g2 G1.out.size); clear h2 g2 hx TK1; have TK2 := Lib.hid True.intro)
    | (go_at_call 24; refine (macSum_any 16 16 m cap _ A D l _ (HTT.out.grown G2.out (fun e => by cases e)) HDL.out (by omega) (RB.of_CB D2.out (by rw [HDL.out]; unfold maxLen; omega) HDL.out) HN.out (by have := HL.out; omega) (H0.out.keptS G2.out)).mono ?_; rintro e w3 ⟨rfl, g3⟩; rw [HM.out]; have R3 := Lib.hid (R2.out.kept g3); have G3 := Lib.hid (grown_trans' G2.out g3); clear g3)
    | (have hx := TK2; refine wpList_storeC (off := 0) (p := bcells M) agg32.hi rfl (.tmp 8) (.tmp 15) rfl (.agg (bcells M).toArray) rfl (bcells_one _) (CB.new w3 59 (bcells (zeros 32))) LM.out (by rw [LZ32.out]; omega) (by first | rfl | go_simp) (by first | rfl | go_simp) ?_; intro w4 h4 g4; rw [over_all _ _ (Nat.le_of_eq (by rw [LZ32.out, LM.out]))] at h4; have M4 := Lib.hid h4; have R4 := Lib.hid ((R3.out.alloc _).grown g4 (by have := R3.out.lt; omega)); have G4 := Lib.hid (none_new (grown_trans' G3.out (grown_alloc _ _ none)) g4 G3.out.size); have ha := run_arrayAt (P := Tryd.prog) Tryd.underlying22 (some ⟨w3.heap.size, 0, none⟩) 16 32 (by omega) w4; clear h4 g4 hx TK2; have TK3 := Lib.hid True.intro)
    | (have hx := TK3; refine wpList_loadC (off := 0) (p := bcells S) aggS16 rfl (.tmp 17) rfl M4.out HS.out (by rw [LM.out]; omega) (by first | rfl | go_simp) ?_; clear hx TK3; have TK4 := Lib.hid True.intro)
    | (have hx := TK4; refine wpList_storeC (off := 0) (p := bcells S) aggS16.hi rfl (.tmp 6) (.tmp 18) rfl (.agg (bcells S).toArray) rfl (bcells_one _) R4.out LS.out (by rw [LZ.out]; omega) (by first | rfl | go_simp) (by first | rfl | go_simp) ?_; intro w5 h5 g5; rw [over_all _ _ (Nat.le_of_eq (by rw [LZ.out, LS.out]))] at h5; have C5 := Lib.hid h5; have G5 := Lib.hid (none_new G4.out g5 (by omega)); clear h5 g5 hx TK4))
  exact bodyPost_ret (results_C Tryd.underlying22 aggS16.hi rfl _ C5.out LS.out rfl) rfl ⟨rfl, G5.out⟩
end Go.Proofs.YtaanhancjmigdaaDoor
