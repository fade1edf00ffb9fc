/- The walks of sha.Sum and of mac's fit. -/
import Derived.Test.YtndnmjolcilamaaDoorNw
namespace Go.Proofs.YtndnmjolcilamaaDoor
open Go.RowKit

theorem newH_len : newH.ws.length = 8 ∧ newH.bl.length = 64 := ⟨rfl, zeros_length 64⟩
/-- The digest of bytes. -/
def shaOf (l : List UInt8) : List UInt8 := sumOf (newH.adds l)
theorem shaOf_length (l : List UInt8) : (shaOf l).length = 32 := sumOf_length _
theorem RB.of_CB {w : World} {g : Nat} {t : TypeId} {l : List UInt8} (h : CB w g t (bcells l)) (hm : l.length ≤ maxLen) {n : Nat} (hn : l.length = n) : RB w w.heap.size (some ⟨g, 0, none⟩) l n := by
  subst hn
  refine ⟨Nat.le_refl _, hm, .inr ⟨_, rfl, fun k u hu => ⟨h.lt, ?_⟩⟩⟩
  rw [Addr.add_lit, Nat.zero_add]
  exact h.at_ (bcells_some hu)
theorem RB.kept {w w' : World} {B : Nat} {A : Option Addr} {l : List UInt8} {cap : Nat} (h : RB w B A l cap) (hg : w.grownBy w' none) (hB : B ≤ w.heap.size) : RB w' B A l cap := h.grown hg hB (fun _ e => by cases e)

set_option maxRecDepth 10000 in
set_option maxHeartbeats 400000 in
theorem shaSum_any (n cap : Nat) (A : Option Addr) (l : List UInt8) (w : World) (hT : TB w) (hn : l.length = n) (hc : n < 1000000) (h : RB w w.heap.size A l cap) :
    Calls Tryd.prog 56 #[.slice A n cap] w fun e w' => e = .returned (.agg (bcells (shaOf l)).toArray) ∧ w.grownBy w' none := by
  have HT := Lib.hid hT
  have HN := Lib.hid hn
  have HC := Lib.hid hc
  have H := Lib.hid h
  have HTL := Lib.hid hT.lt
  have HL := Lib.hid (compress_len newH l newH_len.1 newH_len.2)
  have HC2 := Lib.hid (show (newH.adds l).c < 1000000000000 by have h1 := HL.out.2.2; rw [show newH.c = 0 from rfl] at h1; omega)
  clear hT hn hc h
  go_enter Tryd.func56, Tryd.ntmps56
  go_wp2_with (first
    | refine wpList_allocC zeroB32 rfl rfl ?_
    | (go_at_call 57; refine (new_any _).mono ?_; rintro e3 w3 ⟨g, rfl, hg, h3, g3⟩; rw [World.size_alloc] at hg; have HG := Lib.hid hg; have H3 := Lib.hid h3; have G3 := Lib.hid (grown_trans' (grown_alloc w _ none) g3); have R3 := Lib.hid ((CB.new w 61 (bcells (zeros 32))).kept g3); clear h3 g3 hg)
    | (go_at_call 58; refine (add_any g n cap newH A l _ (HT.out.grown G3.out (fun e => by cases e)) (by have := HG.out; omega) newH_len.1 newH_len.2 HN.out (by have := HC.out; show 0 + n < _; omega) H3.out ((RN.of_RB H.out (by have := HG.out; omega)).grown (grown_some G3.out g))).mono ?_; rintro e4 w4 ⟨rfl, h4, g4⟩; have H4 := Lib.hid h4; have R4 := Lib.hid (R3.out.grown g4 (by have := HG.out; omega)); have G4 := Lib.hid (none_new G3.out g4 (by have := HG.out; omega)); clear h4 g4)
    | (go_at_call 59; refine (hsum_any g (newH.adds l) _ (HT.out.grown G4.out (fun e => by cases e)) HL.out.1 HL.out.2.1 HC2.out H4.out).mono ?_; rintro e5 w5 ⟨rfl, g5⟩; have R5 := Lib.hid (R4.out.kept g5); have G5 := Lib.hid (grown_trans' G4.out g5); clear g5)
    | (refine wpList_storeC (off := 0) (p := bcells (shaOf l)) agg32.hi rfl (.tmp 2) (.tmp 9) rfl (.agg (bcells (shaOf l)).toArray) rfl (bcells_one _) R5.out (by rw [bcells_length, shaOf_length]) (by rw [bcells_length, zeros_length]; omega) rfl rfl ?_; intro w6 h6 g6; rw [over_all _ _ (by rw [bcells_length, bcells_length, shaOf_length, zeros_length]; exact Nat.le_refl _)] at h6))
  exact bodyPost_ret (results_C Tryd.underlying61 agg32.hi rfl _ h6 (by rw [bcells_length, shaOf_length]) rfl) rfl ⟨rfl, none_new G5.out g6 (Nat.le_refl _)⟩
end Go.Proofs.YtndnmjolcilamaaDoor
