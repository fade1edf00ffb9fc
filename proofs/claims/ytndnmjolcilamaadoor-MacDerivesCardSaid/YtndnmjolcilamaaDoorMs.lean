/- The walk of mac.Sum. -/
import Derived.Test.YtndnmjolcilamaaDoorDg
namespace Go.Proofs.YtndnmjolcilamaaDoor
open Go.RowKit

theorem still_loadC {P : Program} {w : World} {o : Oper} {a : Act} {ty t : TypeId} {n g off : Nat} {cs p : List Value} {next : Act → Prop} (hT : AggT P ty n) (x : Operand) (ho : o.op = .load ty x) (h : CB w g t cs) (hp : (cs.drop off).take n = p) (hl : off + n ≤ cs.length) (hx : a.eval x = .pointer (some ⟨g, off, none⟩))
    (hk : next (a.put o.dst (.agg p.toArray))) : o.still P a w next := by
  have hr := run_loadC hT h hp hl
  unfold Oper.still execOp
  simp only [ho, hx, Instr.loadAt, Instr.sureAddr, Sem.run_bind, Sem.run_pure, Result.andThen_ok, hr]
  exact ⟨rfl, hk⟩

set_option maxRecDepth 10000 in
set_option maxHeartbeats 400000 in
theorem macSum_any (n1 cap1 n2 cap2 : Nat) (A1 A2 : Option Addr) (l1 l2 : List UInt8) (w : World) (hT : TB w) (hn1 : l1.length = n1) (hc1 : n1 < 1000000) (h1 : RB w w.heap.size A1 l1 cap1) (hn2 : l2.length = n2) (hc2 : n2 < 1000000) (h2 : RB w w.heap.size A2 l2 cap2) :
    Calls Tryd.prog 29 #[.slice A1 n1 cap1, .slice A2 n2 cap2] w fun e w' => e = .returned (.agg (bcells (macOf l1 l2)).toArray) ∧ w.grownBy w' none := by
  have HT := Lib.hid hT
  have HN1 := Lib.hid hn1
  have HN2 := Lib.hid hn2
  have HC1 := Lib.hid hc1
  have HC2 := Lib.hid hc2
  have H1 := Lib.hid h1
  have H2 := Lib.hid h2
  obtain ⟨K, hK⟩ : ∃ K, K = fitOf l1 := ⟨_, rfl⟩
  obtain ⟨I, hI⟩ : ∃ I, I = digestOf K 54 l2 := ⟨_, rfl⟩
  obtain ⟨M, hM⟩ : ∃ M, M = macOf l1 l2 := ⟨_, rfl⟩
  rw [← hM]
  have HKL := Lib.hid (show K.length = 64 by rw [hK, fitOf_length])
  have HIL := Lib.hid (show I.length = 32 by rw [hI, digestOf_length])
  have HML := Lib.hid (show M.length = 32 by rw [hM, macOf_length])
  have HMM := Lib.hid (show digestOf K 92 I = M by rw [hM, macOf, hI, hK])
  have HK := Lib.hid hK
  have HI := Lib.hid hI
  clear hT hn1 hn2 hc1 hc2 h1 h2 hK hI hM
  go_enter Tryd.func29, Tryd.ntmps29
  go_wp2_with (first
    | refine wpList_allocC zeroB32 rfl rfl ?_
    | refine wpList_allocC zeroB64 rfl rfl ?_
    | (go_at_call 45; refine (fit_any n1 cap1 A1 l1 _ (HT.out.alloc _) HN1.out HC1.out ((H1.out.kept (grown_alloc w _ none) (Nat.le_refl _)).more (by rw [World.size_alloc]; omega))).mono ?_; rintro e3 w3 ⟨rfl, g3⟩; rw [← HK.out]; have R3 := Lib.hid ((CB.new w 61 (bcells (zeros 32))).kept g3); have G3 := Lib.hid (grown_trans' (grown_alloc w (.cells (bcells (zeros 32)).toArray 61) none) g3); clear g3)
    | (have hx := D6; clear hx; refine wpList_storeC (off := 0) (p := bcells I) agg32.hi rfl (.tmp 6) (.tmp 11) rfl (.agg (bcells I).toArray) rfl (bcells_one _) (CB.new w7 61 (bcells (zeros 32))) (by rw [bcells_length, HIL.out]) (by rw [bcells_length, zeros_length]; omega) (by go_simp) rfl ?_; intro w8 h8 g8; rw [over_all _ _ (by rw [bcells_length, bcells_length, HIL.out, zeros_length]; exact Nat.le_refl _)] at h8; have D8 := Lib.hid h8; have H8 := Lib.hid ((H7.out.alloc _).grown g8 (by have := H7.out.lt; omega)); have R8 := Lib.hid ((R7.out.alloc _).grown g8 (by have := R7.out.lt; omega)); have G8 := Lib.hid (none_new (grown_trans' G7.out (grown_alloc _ _ none)) g8 G7.out.size); clear h8 g8)
    | (refine wpList_storeC (off := 0) (p := bcells K) aggB64.hi rfl (.tmp 5) (.tmp 8) rfl (.agg (bcells K).toArray) rfl (bcells_one _) (CB.new w3 76 (bcells (zeros 64))) (by rw [bcells_length, HKL.out]) (by rw [bcells_length, zeros_length]; omega) (by go_simp) rfl ?_; intro w6 h6 g6; rw [over_all _ _ (by rw [bcells_length, bcells_length, HKL.out, zeros_length]; exact Nat.le_refl _)] at h6; have H6 := Lib.hid h6; have R6 := Lib.hid ((R3.out.alloc _).grown g6 (by have := R3.out.lt; omega)); have G6 := Lib.hid (none_new (grown_trans' G3.out (grown_alloc _ _ none)) g6 G3.out.size); clear h6 g6)
    | refine wpList_loadC (off := 0) (p := bcells K) aggB64 rfl (.tmp 5) rfl H6.out (by rw [List.drop_zero]; exact List.take_of_length_le (by rw [bcells_length, HKL.out]; exact Nat.le_refl _)) (by rw [bcells_length, HKL.out]; omega) rfl ?_
    | (go_at_call 46; refine (digest_any n2 cap2 K 54 A2 l2 _ (HT.out.grown G6.out (fun e => by cases e)) HKL.out HN2.out HC2.out ((H2.out.kept G6.out (Nat.le_refl _)).more G6.out.size)).mono ?_; rintro e7 w7 ⟨rfl, g7⟩; rw [← HI.out]; have H7 := Lib.hid (H6.out.kept g7); have R7 := Lib.hid (R6.out.kept g7); have G7 := Lib.hid (grown_trans' G6.out g7); have D6 := H6; clear g7))
  go_still_tail 2, (by kernel_rfl)
  refine wpStill_step (fun KK hK => ?_)
  refine still_loadC (off := 0) (p := bcells K) aggB64 (.tmp 5) rfl H8.out (by rw [List.drop_zero]; exact List.take_of_length_le (by rw [bcells_length, HKL.out]; exact Nat.le_refl _)) (by rw [bcells_length, HKL.out]; omega) rfl (hK _ ?_)
  clear hK KK
  repeat still_step
  refine wpStill_nil ?_
  change wpList _ _ _ _ _ w8.drew
  have G9 := Lib.hid (grown_drew G8.out)
  have D9 := Lib.hid D8.out.drew
  have R9 := Lib.hid R8.out.drew
  clear D6
  generalize w8.drew = w9 at *
  go_wp2_with (first
    | (go_at_call 46; refine (digest_any 32 32 K 92 _ I _ (HT.out.grown G9.out (fun e => by cases e)) HKL.out HIL.out (by omega) (RB.of_CB D9.out (by rw [HIL.out]; unfold maxLen; omega) HIL.out)).mono ?_; rintro e10 w10 ⟨rfl, g10⟩; rw [HMM.out]; have R10 := Lib.hid (R9.out.kept g10); have G10 := Lib.hid (grown_trans' G9.out g10); clear g10)
    | (refine wpList_storeC (off := 0) (p := bcells M) agg32.hi rfl (.tmp 4) (.tmp 14) rfl (.agg (bcells M).toArray) rfl (bcells_one _) R10.out (by rw [bcells_length, HML.out]) (by rw [bcells_length, zeros_length]; omega) rfl rfl ?_; intro w11 h11 g11; rw [over_all _ _ (by rw [bcells_length, bcells_length, HML.out, zeros_length]; exact Nat.le_refl _)] at h11))
  exact bodyPost_ret (results_C Tryd.underlying61 agg32.hi rfl _ h11 (by rw [bcells_length, HML.out]) rfl) rfl ⟨rfl, none_new G10.out g11 (Nat.le_refl _)⟩
end Go.Proofs.YtndnmjolcilamaaDoor
