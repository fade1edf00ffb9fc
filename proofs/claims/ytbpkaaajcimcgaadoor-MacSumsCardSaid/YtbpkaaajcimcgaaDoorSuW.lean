/- The walk of MacSums. -/
import Derived.Test.YtbpkaaajcimcgaaDoorRf4
import Derived.Test.YtbpkaaajcimcgaaDoorNoW
namespace Go.Proofs.YtbpkaaajcimcgaaDoor
open Go.RowKit

set_option maxRecDepth 10000 in
set_option maxHeartbeats 1000000 in
theorem walk_MacSums (w : World) (hT : TB w) (A1 : Option Addr) (l1 : List UInt8) (cap1 : Nat) (h1 : RB w w.heap.size A1 l1 cap1) (A2 : Option Addr) (l2 : List UInt8) (cap2 : Nat) (h2 : RB w w.heap.size A2 l2 cap2) :
    Calls Tryd.prog 3 #[.slice A1 l1.length cap1, .slice A2 l2.length cap2] w fun e w' => e = .returned (.bool true) ∧ Below w.heap.size w w' := by
  have HT := Lib.hid hT
  obtain ⟨n1, hn1⟩ : ∃ n, l1.length = n := ⟨_, rfl⟩
  obtain ⟨n2, hn2⟩ : ∃ n, l2.length = n := ⟨_, rfl⟩
  rw [hn1, hn2]
  have HN1 := Lib.hid hn1
  have HN2 := Lib.hid hn2
  have H1 := Lib.hid h1
  have H2 := Lib.hid h2
  clear hT h1 h2 hn1 hn2
  by_cases hb1 : 1000 < n1
  · have hb1i : (1000 : Int) < (n1 : Int) := by omega
    go_enter Tryd.func3, Tryd.ntmps3
    go_wp2_with (go_at_call 8; refine (speaks_any _ HT.out).mono ?_; rintro e w1 ⟨rfl, g1⟩; have G1 := Lib.hid (below_of_none g1); clear g1)
    go_ret
    exact ⟨rfl, G1.out⟩
  · have hb1i : ¬ ((1000 : Int) < (n1 : Int)) := by omega
    by_cases hb2 : 1000 < n2
    · have hb2i : (1000 : Int) < (n2 : Int) := by omega
      go_enter Tryd.func3, Tryd.ntmps3
      go_wp2_with (go_at_call 8; refine (speaks_any _ HT.out).mono ?_; rintro e w1 ⟨rfl, g1⟩; have G1 := Lib.hid (below_of_none g1); clear g1)
      go_ret
      exact ⟨rfl, G1.out⟩
    · have hb2i : ¬ ((1000 : Int) < (n2 : Int)) := by omega
      have HB1 := Lib.hid (show n1 ≤ 1000 by omega)
      have HB2 := Lib.hid (show n2 ≤ 1000 by omega)
      have HE := Lib.hid (fun W => show (Op.equalIn 10000 25 (.agg (bcells (macOf l1 l2)).toArray) (.agg (bcells (macOf l1 l2)).toArray)).run Tryd.prog W = _ from run_eqB (P := Tryd.prog) arr32 sz8 Tryd.underlying5 (macOf_length l1 l2) (macOf_length l1 l2) 9998 W)
      have tt1 : (l1 == l1) = true := beq_self_eq_true _
      have tt2 : (l2 == l2) = true := beq_self_eq_true _
      clear hb1 hb2
      go_enter Tryd.func3, Tryd.ntmps3
      go_wp2_with (first
        | (go_at_call 8; refine (speaks_any _ HT.out).mono ?_; rintro e w1 ⟨rfl, g1⟩; have G1 := Lib.hid g1; clear g1)
        | (at_builtin; refine wpList_appB byteT rfl (.tmp 17) (.tmp 18) rfl (OwnB.new0 w1 w1.heap.size _ (Nat.le_refl _)) (((H1.out.kept G1.out (Nat.le_refl _)).more G1.out.size).alloc (Nat.le_refl _) _) rfl (by rw [HN1.out]; rfl) (by rw [HN1.out]; have := HB1.out; simp; omega) (by simp) ?_; intro v3 w3 hown3 hg3 _ _; rw [List.nil_append] at hown3; have O3 := Lib.hid hown3; have G3 := Lib.hid (none_new (grown_trans' G1.out (grown_alloc w1 _ none)) hg3 G1.out.size); have S3 := Lib.hid (Nat.le_trans (Nat.le_succ _) (Nat.le_trans (Nat.le_of_eq (World.size_alloc _ _).symm) hg3.size)); clear hown3 hg3; obtain ⟨A3, c3, rfl, hr3, -⟩ := O3.out.shape; rw [HN1.out] at O3 ⊢; have Q3 := Lib.hid hr3; clear hr3)
        | (at_builtin; refine wpList_appB byteT rfl (.tmp 20) (.tmp 21) rfl (OwnB.new0 w3 w3.heap.size _ (Nat.le_refl _)) (((H2.out.kept G3.out (Nat.le_refl _)).more G3.out.size).alloc (Nat.le_refl _) _) rfl (by rw [HN2.out]; rfl) (by rw [HN2.out]; have := HB2.out; simp; omega) (by simp) ?_; intro v4 w4 hown4 hg4 _ _; rw [List.nil_append] at hown4; have O4 := Lib.hid hown4; have GG4 := Lib.hid (none_new (grown_alloc w3 _ none) hg4 (Nat.le_refl _)); have G4 := Lib.hid (grown_trans' G3.out GG4.out); have Q34 := Lib.hid ((Q3.out.kept GG4.out (Nat.le_refl _)).more GG4.out.size); clear hown4 hg4; obtain ⟨A4, c4, rfl, hr4, -⟩ := O4.out.shape; rw [HN2.out]; have Q4 := Lib.hid hr4; clear hr4)
        | (go_at_call 9; refine (macSum_any n1 c3 n2 c4 A3 A4 l1 l2 _ (HT.out.grown G4.out (fun e => by cases e)) HN1.out (by have := HB1.out; omega) Q34.out HN2.out (by have := HB2.out; omega) Q4.out).mono ?_; rintro e5 w5 ⟨rfl, g5⟩; have G5 := Lib.hid (grown_trans' G4.out g5); have Q35 := Lib.hid ((Q34.out.kept g5 (Nat.le_refl _)).more g5.size); have Q45 := Lib.hid ((Q4.out.kept g5 (Nat.le_refl _)).more g5.size); clear g5)
        | (go_at_call 10; refine (refMac_any n1 cap1 n2 cap2 A1 A2 l1 l2 _ HN1.out (by have := HB1.out; omega) ((H1.out.kept G5.out (Nat.le_refl _)).more G5.out.size) HN2.out (by have := HB2.out; omega) ((H2.out.kept G5.out (Nat.le_refl _)).more G5.out.size)).mono ?_; rintro e6 w6 ⟨rfl, g6⟩; have G6 := Lib.hid (grown_trans' G5.out g6); have he6 := HE.out w6; rw [beq_self_eq_true] at he6; have s1 := run_strB byteT Tryd.underlying9 (H1.out.kept G6.out (Nat.le_refl _)); rw [HN1.out] at s1; have s2 := run_strB byteT Tryd.underlying9 (H2.out.kept G6.out (Nat.le_refl _)); rw [HN2.out] at s2; have s3 := run_strB byteT Tryd.underlying9 (Q35.out.kept g6 (Nat.le_refl _)); rw [HN1.out] at s3; have s4 := run_strB byteT Tryd.underlying9 (Q45.out.kept g6 (Nat.le_refl _)); rw [HN2.out] at s4; clear g6))
      go_ret
      exact ⟨rfl, below_of_none G6.out⟩
end Go.Proofs.YtbpkaaajcimcgaaDoor
