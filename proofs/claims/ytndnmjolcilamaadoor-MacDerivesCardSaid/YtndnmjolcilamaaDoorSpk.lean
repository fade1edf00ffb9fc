/- The walk of the example of the document. -/
import Derived.Test.YtndnmjolcilamaaDoorEx
import Derived.Lib.SlBytesConst
namespace Go.Proofs.YtndnmjolcilamaaDoor
open Go.RowKit

theorem byteT : ByteT Tryd.prog 28 5 := ⟨Tryd.underlying28, Tryd.underlying5, by kernel_rfl⟩
set_option maxRecDepth 10000 in
set_option maxHeartbeats 400000 in
theorem speaks_any (w : World) (hT : TB w) : Calls Tryd.prog 10 #[] w fun e w' => e = .returned (.bool true) ∧ w.grownBy w' none := by
  have HT := Lib.hid hT
  clear hT
  have kc := fun (w : World) (C : Array Value) (n c : Nat) => Lib.run_convert_bytes_const (P := Tryd.prog) w 28 5 C n c Tryd.underlying28 Tryd.underlying5
  have kc1 := kc w #[.int .u8 74, .int .u8 101, .int .u8 102, .int .u8 101] 4 4
  have kc2 := kc (w.alloc (.cells #[.int .u8 74, .int .u8 101, .int .u8 102, .int .u8 101] 5 (4, 5))) #[.int .u8 119, .int .u8 104, .int .u8 97, .int .u8 116, .int .u8 32, .int .u8 100, .int .u8 111, .int .u8 32, .int .u8 121, .int .u8 97, .int .u8 32, .int .u8 119, .int .u8 97, .int .u8 110, .int .u8 116, .int .u8 32, .int .u8 102, .int .u8 111, .int .u8 114, .int .u8 32, .int .u8 110, .int .u8 111, .int .u8 116, .int .u8 104, .int .u8 105, .int .u8 110, .int .u8 103, .int .u8 63] 28 28
  rw [World.size_alloc] at kc2
  clear kc
  have R1 := Lib.hid (show RB ((w.alloc (.cells #[.int .u8 74, .int .u8 101, .int .u8 102, .int .u8 101] 5 (4, 5))).alloc (.cells #[.int .u8 119, .int .u8 104, .int .u8 97, .int .u8 116, .int .u8 32, .int .u8 100, .int .u8 111, .int .u8 32, .int .u8 121, .int .u8 97, .int .u8 32, .int .u8 119, .int .u8 97, .int .u8 110, .int .u8 116, .int .u8 32, .int .u8 102, .int .u8 111, .int .u8 114, .int .u8 32, .int .u8 110, .int .u8 111, .int .u8 116, .int .u8 104, .int .u8 105, .int .u8 110, .int .u8 103, .int .u8 63] 5 (28, 29))) (w.heap.size + 2) (some ⟨w.heap.size, 0, none⟩) exA 4 from ((RB.newm w 5 (4, 5) exA (by rw [ex_len.1]; unfold maxLen; omega) (w.heap.size + 1) (Nat.lt_succ_self _)).alloc (by rw [World.size_alloc]; exact Nat.le_refl _) _).more (Nat.le_succ _))
  have R2' := RB.newm (w.alloc (.cells #[.int .u8 74, .int .u8 101, .int .u8 102, .int .u8 101] 5 (4, 5))) 5 (28, 29) exB (by rw [ex_len.2]; unfold maxLen; omega) (w.heap.size + 2) (by rw [World.size_alloc]; omega)
  rw [World.size_alloc] at R2'
  have R2 := Lib.hid (show RB ((w.alloc (.cells #[.int .u8 74, .int .u8 101, .int .u8 102, .int .u8 101] 5 (4, 5))).alloc (.cells #[.int .u8 119, .int .u8 104, .int .u8 97, .int .u8 116, .int .u8 32, .int .u8 100, .int .u8 111, .int .u8 32, .int .u8 121, .int .u8 97, .int .u8 32, .int .u8 119, .int .u8 97, .int .u8 110, .int .u8 116, .int .u8 32, .int .u8 102, .int .u8 111, .int .u8 114, .int .u8 32, .int .u8 110, .int .u8 111, .int .u8 116, .int .u8 104, .int .u8 105, .int .u8 110, .int .u8 103, .int .u8 63] 5 (28, 29))) (w.heap.size + 2) (some ⟨w.heap.size + 1, 0, none⟩) exB 28 from R2')
  have G2 := Lib.hid (grown_trans' (grown_alloc w (.cells #[.int .u8 74, .int .u8 101, .int .u8 102, .int .u8 101] 5 (4, 5)) none) (grown_alloc _ (.cells #[.int .u8 119, .int .u8 104, .int .u8 97, .int .u8 116, .int .u8 32, .int .u8 100, .int .u8 111, .int .u8 32, .int .u8 121, .int .u8 97, .int .u8 32, .int .u8 119, .int .u8 97, .int .u8 110, .int .u8 116, .int .u8 32, .int .u8 102, .int .u8 111, .int .u8 114, .int .u8 32, .int .u8 110, .int .u8 111, .int .u8 116, .int .u8 104, .int .u8 105, .int .u8 110, .int .u8 103, .int .u8 63] 5 (28, 29)) none))
  have hsz : ((w.alloc (.cells #[.int .u8 74, .int .u8 101, .int .u8 102, .int .u8 101] 5 (4, 5))).alloc (.cells #[.int .u8 119, .int .u8 104, .int .u8 97, .int .u8 116, .int .u8 32, .int .u8 100, .int .u8 111, .int .u8 32, .int .u8 121, .int .u8 97, .int .u8 32, .int .u8 119, .int .u8 97, .int .u8 110, .int .u8 116, .int .u8 32, .int .u8 102, .int .u8 111, .int .u8 114, .int .u8 32, .int .u8 110, .int .u8 111, .int .u8 116, .int .u8 104, .int .u8 105, .int .u8 110, .int .u8 103, .int .u8 63] 5 (28, 29))).heap.size = w.heap.size + 2 := by rw [World.size_alloc, World.size_alloc]
  have HSZ := Lib.hid hsz
  have T2 := Lib.hid (HT.out.grown G2.out (fun e => by cases e))
  clear R2' hsz
  generalize hW : ((w.alloc (.cells #[.int .u8 74, .int .u8 101, .int .u8 102, .int .u8 101] 5 (4, 5))).alloc (.cells #[.int .u8 119, .int .u8 104, .int .u8 97, .int .u8 116, .int .u8 32, .int .u8 100, .int .u8 111, .int .u8 32, .int .u8 121, .int .u8 97, .int .u8 32, .int .u8 119, .int .u8 97, .int .u8 110, .int .u8 116, .int .u8 32, .int .u8 102, .int .u8 111, .int .u8 114, .int .u8 32, .int .u8 110, .int .u8 111, .int .u8 116, .int .u8 104, .int .u8 105, .int .u8 110, .int .u8 103, .int .u8 63] 5 (28, 29))) = w2 at R1 R2 G2 HSZ T2
  have HW := Lib.hid hW
  clear hW
  obtain ⟨M, hM⟩ : ∃ M, M = macOf exA exB := ⟨_, rfl⟩
  have HML := Lib.hid (show M.length = 32 by rw [hM, macOf_length])
  have HM4 := Lib.hid (show M.take 4 = [91, 220, 193, 70] by rw [hM, ex_mac])
  have HM := Lib.hid hM
  clear hM
  go_enter Tryd.func10, Tryd.ntmps10
  go_wp2_with (first
    | (go_at_call 29; rw [HW.out]; refine (macSum_any 4 4 28 28 _ _ exA exB _ T2.out ex_len.1 (by omega) (R1.out.more (by rw [HSZ.out]; exact Nat.le_refl _)) ex_len.2 (by omega) (R2.out.more (by rw [HSZ.out]; exact Nat.le_refl _))).mono ?_; rintro e3 w3 ⟨rfl, g3⟩; rw [← HM.out]; have G3 := Lib.hid (grown_trans' G2.out g3); clear g3)
    | refine wpList_allocC zeroB32 rfl rfl ?_
    | (refine wpList_storeC (off := 0) (p := bcells M) agg32.hi rfl (.tmp 1) (.tmp 6) rfl (.agg (bcells M).toArray) rfl (bcells_one _) (CB.new w3 61 (bcells (zeros 32))) (by rw [bcells_length, HML.out]) (by rw [bcells_length, zeros_length]; omega) (by go_simp) rfl ?_; intro w8 h8 g8; rw [over_all _ _ (by rw [bcells_length, bcells_length, HML.out, zeros_length]; exact Nat.le_refl _)] at h8; have G8 := Lib.hid (none_new (grown_trans' G3.out (grown_alloc _ _ none)) g8 G3.out.size); have r8 := (RB.of_CB h8 (by rw [HML.out]; unfold maxLen; omega) HML.out).head 4; rw [HM4.out] at r8; have hs8 : (convert 28 9 (.slice (some ⟨w3.heap.size, 0, none⟩) 4 32)).run Tryd.prog w8 = .ok (.string ⟨#[91, 220, 193, 70]⟩) w8 := run_strB byteT Tryd.underlying9 r8; clear h8 g8 r8))
  go_ret
  exact ⟨rfl, G8.out⟩
end Go.Proofs.YtndnmjolcilamaaDoor
