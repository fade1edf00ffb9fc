/- The walk of MacNoughts. -/
import Derived.Test.YtbpkaaajcimcgaaDoorApz
import Derived.Test.YtbpkaaajcimcgaaDoorEqa
namespace Go.Proofs.YtbpkaaajcimcgaaDoor
open Go.RowKit

theorem byteTn : Tryd.prog.underlying 3 = some (.int .i64) := Tryd.underlying3
set_option maxRecDepth 10000 in
set_option maxHeartbeats 400000 in
theorem walk_MacNoughts (w : World) (hT : TB w) (A1 : Option Addr) (l1 : List UInt8) (cap1 : Nat) (h1 : RB w w.heap.size A1 l1 cap1) (A2 : Option Addr) (l2 : List UInt8) (cap2 : Nat) (h2 : RB w w.heap.size A2 l2 cap2) (n : Int) (_ : (Lit.int .i64 n).wf = true) :
    Calls Tryd.prog 6 #[.slice A1 l1.length cap1, .slice A2 l2.length cap2, .int .i64 n] w fun e w' => e = .returned (.bool true) ∧ Below w.heap.size w w' := by
  have HT := Lib.hid hT
  obtain ⟨n1, hn1⟩ : ∃ n, l1.length = n := ⟨_, rfl⟩
  obtain ⟨n2, hn2⟩ : ∃ n, l2.length = n := ⟨_, rfl⟩
  rw [hn1, hn2]
  have HN1 := Lib.hid hn1
  have HN2 := Lib.hid hn2
  have H1 := Lib.hid h1
  have H2 := Lib.hid h2
  clear hT h1 h2 hn1 hn2
  by_cases hb1 : 64 < n1
  · have hb1i : (64 : Int) < (n1 : Int) := by omega
    go_enter Tryd.func6, Tryd.ntmps6
    go_wp2_with (go_at_call 8; refine (speaks_any _ HT.out).mono ?_; rintro e w1 ⟨rfl, g1⟩; have G1 := Lib.hid (below_of_none g1); clear g1)
    go_ret
    exact ⟨rfl, G1.out⟩
  · have hb1i : ¬ ((64 : Int) < (n1 : Int)) := by omega
    by_cases hb2 : 1000 < n2
    · have hb2i : (1000 : Int) < (n2 : Int) := by omega
      go_enter Tryd.func6, Tryd.ntmps6
      go_wp2_with (go_at_call 8; refine (speaks_any _ HT.out).mono ?_; rintro e w1 ⟨rfl, g1⟩; have G1 := Lib.hid (below_of_none g1); clear g1)
      go_ret
      exact ⟨rfl, G1.out⟩
    · have hb2i : ¬ ((1000 : Int) < (n2 : Int)) := by omega
      have HB1 := Lib.hid (show n1 ≤ 64 by omega)
      have HB2 := Lib.hid (show n2 ≤ 1000 by omega)
      obtain ⟨q, hq, hqe⟩ := and_low n
      obtain ⟨d, hd, hdw, hd0⟩ : ∃ d : Nat, d = 65 - n1 ∧ IntKind.i64.wrap (65 - (n1 : Int)) = (d : Int) ∧ 0 < d := ⟨65 - n1, rfl, by rw [IntKind.wrap_i64]; omega, by omega⟩
      obtain ⟨k, hk, hkt, hkw⟩ : ∃ k : Nat, k = q % d ∧ (q : Int).tmod d = (k : Int) ∧ IntKind.i64.wrap (k : Int) = (k : Int) := by
        have := Nat.mod_lt q hd0
        exact ⟨q % d, rfl, by rw [Int.tmod_eq_emod_of_nonneg (by omega)]; omega, by rw [IntKind.wrap_i64]; omega⟩
      have hdn : (d : Int) ≠ 0 := by omega
      have HK := Lib.hid (show n1 + k ≤ 64 by have := Nat.mod_lt q hd0; omega)
      clear hd hk hq
      have HE := Lib.hid (fun W => show (Op.equalIn 10000 25 (.agg (bcells (macOf l1 l2)).toArray) (.agg (bcells (macOf l1 l2)).toArray)).run Tryd.prog W = _ from run_eqB (P := Tryd.prog) arr32 sz8 Tryd.underlying5 (macOf_length l1 l2) (macOf_length l1 l2) 9998 W)
      go_enter Tryd.func6, Tryd.ntmps6
      go_wp2_with (first
        | (go_at_call 8; refine (speaks_any _ HT.out).mono ?_; rintro e w1 ⟨rfl, g1⟩; have G1 := Lib.hid g1; clear g1)
        | (at_builtin; refine wpList_appB byteT rfl (.tmp 24) (.tmp 25) rfl (OwnB.new0 w1 w1.heap.size _ (Nat.le_refl _)) (((H1.out.kept G1.out (Nat.le_refl _)).more G1.out.size).alloc (Nat.le_refl _) _) rfl (by rw [HN1.out]; rfl) (by rw [HN1.out]; have := HB1.out; simp; omega) (by simp) ?_; intro v3 w3 hown3 hg3 _ _; rw [List.nil_append] at hown3; have O3 := Lib.hid hown3; have G3 := Lib.hid (none_new (grown_trans' G1.out (grown_alloc w1 _ none)) hg3 G1.out.size); have S3 := Lib.hid (Nat.le_trans (Nat.le_succ _) (Nat.le_trans (Nat.le_of_eq (World.size_alloc _ _).symm) hg3.size)); clear hown3 hg3)
        | (at_builtin; refine wpList_appZ byteT byteTn rfl (.tmp 26) (.tmp 27) rfl O3.out k rfl rfl (by have := HK.out; rw [HN1.out]; omega) S3.out ?_; intro v4 w4 hown4 hg4 _; have G4 := Lib.hid (show w.grownBy w4 none from by
            rcases hv : v3.ownBlock with _ | g
            · rw [hv] at hg4; exact grown_trans' G3.out hg4
            · rw [hv] at hg4; exact none_new G3.out hg4 (Nat.le_trans G1.out.size (O3.out.lt g hv).1)); obtain ⟨A4, c4, rfl, hr4, -⟩ := hown4.shape; rw [List.length_append, zeros_length, HN1.out]; have R4 := Lib.hid hr4; clear hr4 hown4 hg4)
        | (go_at_call 9; have hx := G5; clear hx; refine (macSum_any n1 cap1 n2 cap2 A1 A2 l1 l2 _ (HT.out.grown G5.out (fun e => by cases e)) HN1.out (by have := HB1.out; omega) ((H1.out.kept G5.out (Nat.le_refl _)).more G5.out.size) HN2.out (by have := HB2.out; omega) ((H2.out.kept G5.out (Nat.le_refl _)).more G5.out.size)).mono ?_; rintro e6 w6 ⟨rfl, g6⟩; have G6 := Lib.hid (grown_trans' G5.out g6); have he6 := HE.out w6; rw [beq_self_eq_true] at he6; clear g6)
        | (go_at_call 9; refine (macSum_any (n1 + k) c4 n2 cap2 A4 A2 (l1 ++ zeros k) l2 _ (HT.out.grown G4.out (fun e => by cases e)) (by rw [List.length_append, zeros_length, HN1.out]) (by have := HK.out; omega) R4.out HN2.out (by have := HB2.out; omega) ((H2.out.kept G4.out (Nat.le_refl _)).more G4.out.size)).mono ?_; rintro e5 w5 ⟨rfl, g5⟩; rw [macOf_zeros l1 l2 k (by rw [HN1.out]; exact HK.out)]; have G5 := Lib.hid (grown_trans' G4.out g5); clear g5))
      go_ret
      exact ⟨rfl, below_of_none G6.out⟩
end Go.Proofs.YtbpkaaajcimcgaaDoor
