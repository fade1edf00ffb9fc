/- The walk of the example of the document. -/
import Derived.Test.YtbpkaaajcimcgabVal
namespace Go.Proofs.Ytbpkaaajcimcgab
open Go.RowKit

theorem arrK : ArrT Try.prog 23 5 16 := ⟨Try.underlying23, by kernel_rfl⟩
theorem RB.of_BB {w : World} {g : Nat} {t : TypeId} {l : List UInt8} (h : BB w g t l) (hm : l.length ≤ maxLen) {n : Nat} (hn : l.length = n) : RB w w.heap.size (some ⟨g, 0, none⟩) l n := by
  subst hn
  refine ⟨Nat.le_refl _, hm, .inr ⟨_, rfl, fun k u hu => ⟨h.lt, ?_⟩⟩⟩
  rw [Addr.add_lit, Nat.zero_add]
  exact h.at_ hu
theorem ex_at (k : Nat) (h : k < 16) : exKey[k]? = some (UInt8.ofNat k) ∧ exIn[k]? = some (UInt8.ofNat (17 * k)) := by
  rcases (by omega : k = 0 ∨ k = 1 ∨ k = 2 ∨ k = 3 ∨ k = 4 ∨ k = 5 ∨ k = 6 ∨ k = 7 ∨ k = 8 ∨ k = 9 ∨ k = 10 ∨ k = 11 ∨ k = 12 ∨ k = 13 ∨ k = 14 ∨ k = 15) with rfl | rfl | rfl | rfl | rfl | rfl | rfl | rfl | rfl | rfl | rfl | rfl | rfl | rfl | rfl | rfl <;> exact ⟨rfl, rfl⟩
theorem ex_len : exKey.length = 16 ∧ exIn.length = 16 := ⟨rfl, rfl⟩

set_option maxRecDepth 10000 in
set_option maxHeartbeats 1000000 in
theorem speaks_any (w : World) : Calls Try.prog 8 #[] w fun e w' => e = .returned (.bool true) ∧ Below w.heap.size w w' := by
  have hz : (List.replicate 16 (0 : UInt8)).length = 16 := rfl
  have HZ := Lib.hid hz
  clear hz
  have h1 : BB ((w.alloc (.cells (bcells (List.replicate 16 0)).toArray 23)).alloc (.cells (bcells (List.replicate 16 0)).toArray 22)) w.heap.size 23 (List.replicate 16 0) := heap_alloc2_old _ _ _
  have h2 : BB ((w.alloc (.cells (bcells (List.replicate 16 0)).toArray 23)).alloc (.cells (bcells (List.replicate 16 0)).toArray 22)) (w.heap.size + 1) 22 (List.replicate 16 0) := heap_alloc2_new _ _ _
  have H1 := Lib.hid h1
  have H2 := Lib.hid h2
  clear h1 h2
  go_enter Try.func8, Try.ntmps8
  go_wp2_with (first
    | (refine wpList_storeB arrK rfl (.tmp 1) (.tmp 6) rfl H1.out HZ.out HZ.out rfl rfl ?_; intro w1 h1 hg1; have K1 := Lib.hid h1; have I1 := Lib.hid (H2.out.grown hg1 (by omega)); have B1 := Lib.hid ((((Below.refl _ _).alloc (Nat.le_refl _) _).alloc (by simp) _).trans (below_of_grown hg1 (Nat.le_refl _) (by simp; omega))); clear h1 hg1)
    | (refine wpList_storeB arr16 rfl (.tmp 2) (.tmp 7) rfl I1.out HZ.out HZ.out rfl rfl ?_; intro w2 h2 hg2; have I2 := Lib.hid h2; have K2 := Lib.hid (K1.out.grown hg2 (by omega)); have B2 := Lib.hid (B1.out.trans (below_of_grown hg2 (Nat.le_succ _) B1.out.size)); clear h2 hg2))
  go_loopw [8] (fun i wr => ∃ k : Nat, i = .int .i64 k ∧ k ≤ 16 ∧ BB wr w.heap.size 23 (mix exKey (List.replicate 16 0) k) ∧ BB wr (w.heap.size + 1) 22 (mix exIn (List.replicate 16 0) k) ∧ Below w.heap.size w wr) (fun i _ => 16 - (intOf i).toNat)
  case atStart => exact ⟨0, rfl, by omega, by rw [mix_zero]; exact K2.out, by rw [mix_zero]; exact I2.out, B2.out⟩
  case round =>
    obtain ⟨k, rfl, hk, hK, hI, hbel⟩ := hrel
    by_cases hlt : k < 16
    · obtain ⟨e1, e2⟩ := ex_at k hlt
      have r0 : (List.replicate 16 (0 : UInt8))[k]? = some 0 := by rw [List.getElem?_replicate, if_pos hlt]
      have c1 := hK.at_ (i := k) (u := 0) (by rw [mix_get exKey (List.replicate 16 0) rfl k k (Nat.le_refl _), r0])
      have c2 := hI.at_ (i := k) (u := 0) (by rw [mix_get exIn (List.replicate 16 0) rfl k k (Nat.le_refl _), r0])
      have f1 := hK.free k
      have f2 := hI.free k
      have hki : (k : Int) < 16 := by omega
      have w1 : IntKind.u8.wrap (k : Int) = (k : Int) := by rw [show IntKind.u8.wrap (k : Int) = (k : Int) % 256 from rfl]; omega
      have w2 : IntKind.u8.wrap (17 * (k : Int)) = 17 * (k : Int) := by rw [show IntKind.u8.wrap (17 * (k : Int)) = (17 * (k : Int)) % 256 from rfl]; omega
      have HN1 := Lib.hid (fun x hx => mix_set exKey (List.replicate 16 0) rfl k _ e1 ▸ hK.set_ k _ x hx)
      have HN2' := fun p x (hx : x = ((UInt8.ofNat (17 * k)).toNat : Int)) => mix_set exIn (List.replicate 16 0) rfl k _ e2 ▸ (hI.far (p := ⟨w.heap.size, k, none⟩) (by simp) p).set_ k _ x hx
      have HB := Lib.hid hbel
      have HN2 := Lib.hid HN2'
      clear hK hI hbel e1 e2 r0 HN2'
      go_wp2
      go_roundw
      case rel => exact ⟨k + 1, by go_num, by omega, (HN1.out _ (by simp; omega)).far (by simp) _, HN2.out _ _ (by simp; omega), (HB.out.setCell (Nat.le_refl _) _).setCell (Nat.le_succ _) _⟩
      case measure => simp [intOf]; omega
    · obtain rfl : k = 16 := by omega
      rw [mix_all exKey (List.replicate 16 0) (k := 16) (Nat.le_refl _) (Nat.le_refl _)] at hK
      rw [mix_all exIn (List.replicate 16 0) (k := 16) (Nat.le_refl _) (Nat.le_refl _)] at hI
      have HK := Lib.hid hK
      have HI := Lib.hid hI
      have HB := Lib.hid hbel
      have hbs := hbel.size
      have hlt2 := hI.lt
      have hnew := fun W => new_any exKey rfl W
      have HNEW := Lib.hid hnew
      clear hK hI hbel hnew
      go_wp2_with (first
        | refine wpList_loadB arrK rfl (.tmp 1) rfl HK.out ex_len.1 rfl ?_
        | (go_at_call 9; refine (HNEW.out _).mono ?_; rintro e w3 ⟨g, rfl, hc, hb3, hg3⟩; have HC := Lib.hid hc; have HB3 := Lib.hid hb3; have HI3 := Lib.hid (HI.out.below hb3 hlt2); clear hc hb3)
        | refine wpList_loadB arr16 rfl (.tmp 2) rfl HI3.out ex_len.2 rfl ?_
        | (go_at_call 10; refine (block_any g (keyed exKey) exIn _ HC.out (keyed_length _ rfl) rfl).mono ?_; rintro e w4 ⟨rfl, hb4⟩; have HB4 := Lib.hid (HB3.out.trans (hb4.mono HB3.out.size)); clear hb4)
        | (refine wpList_storeB arr16 rfl (.tmp 5) (.tmp 27) rfl (BB.new w4 22 (List.replicate 16 0)) rfl (blockOf_length (keyed exKey) exIn) rfl rfl ?_; intro w5 h5 hg5; rw [ex_block] at h5; have hs5 : (convert 32 9 (.slice (some ⟨w4.heap.size, 0, none⟩) 16 16)).run Try.prog w5 = .ok (.string ⟨#[105, 196, 224, 216, 106, 123, 4, 48, 216, 205, 183, 128, 112, 180, 197, 90]⟩) w5 := run_strB byteT Try.underlying9 (RB.of_BB h5 (by simp [maxLen]) (n := 16) rfl); have HB5 := Lib.hid (((HB.out.trans (HB4.out.mono hbs)).alloc (Nat.le_trans hbs HB4.out.size) _).trans (below_of_grown hg5 (Nat.le_trans hbs HB4.out.size) (by have := HB4.out.size; simp; omega))); clear h5 hg5))
      go_ret
      exact ⟨rfl, HB5.out⟩
end Go.Proofs.Ytbpkaaajcimcgab
