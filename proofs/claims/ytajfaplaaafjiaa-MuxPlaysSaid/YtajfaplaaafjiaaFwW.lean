/- The walk of FrameWrites. -/
import Derived.Test.YtajfaplaaafjiaaFrj
namespace Go.Proofs.Ytajfaplaaafjiaa
open Go.RowKit

theorem wrF_len (c : Int) (l : List UInt8) (n : Nat) (hn : l.length = n) : (wrF (c, l)).1.length ≤ n + 3 := by
  unfold wrF
  split
  · simp
  · split
    · simp
    · simp [frB, hn]
theorem wrF_ok {c : Int} {l : List UInt8} (h : (wrF (c, l)).2 = 0) : 0 ≤ c ∧ c ≤ 4 ∧ l.length ≤ 512 ∧ (wrF (c, l)).1 = frB (c, l) := by
  unfold wrF at *
  by_cases h1 : c < 0 ∨ 4 < c
  · rw [if_pos h1] at h; exact absurd h (by simp)
  · rw [if_neg h1] at h ⊢
    by_cases h2 : 512 < l.length
    · rw [if_pos h2] at h; exact absurd h (by simp)
    · rw [if_neg h2]
      exact ⟨by omega, by omega, by omega, rfl⟩
theorem feedF_frB {c : Int} {l : List UInt8} (h1 : 0 ≤ c ∧ c ≤ 4) (h2 : l.length ≤ 512) : feedF [] 0 (frB (c, l)) = ([(c, l)], [], 0) := by
  have h := scan_frB (f := (c, l)) h1 h2 []
  rw [List.append_nil, scan_nil] at h
  unfold feedF
  rw [if_neg (by simp), List.nil_append, h]
  simp

set_option maxRecDepth 10000 in
set_option maxHeartbeats 4000000 in
theorem walk_FrameWrites (w : World) (c : Int) (hc : I64 c) (A : Option Addr) (l : List UInt8) (cap : Nat) (hr : RB w w.heap.size A l cap) :
    Calls Try.prog 3 #[.agg #[.int .i64 c, .slice A l.length cap]] w fun e w' => e = .returned (.bool true) ∧ Below w.heap.size w w' := by
  obtain ⟨n, hn⟩ : ∃ n, l.length = n := ⟨_, rfl⟩
  rw [hn]
  have H := Lib.hid hr
  have HN := Lib.hid hn
  have HC := Lib.hid hc
  have hnm : n ≤ 9223372036854775807 := by have := hr.1; have := hr.2.1; unfold maxLen at this; omega
  obtain ⟨w0, hw0⟩ : ∃ x, w.alloc (.cells #[.int .i64 c, .slice A n cap] 24) = x := ⟨_, rfl⟩
  have G0 := Lib.hid (show w.grownBy w0 none by rw [← hw0]; exact grown_alloc _ _ _)
  have C0 := Lib.hid (show CB w0 w.heap.size 24 [.int .i64 c, .slice A n cap] by rw [← hw0]; exact CB.new w _ _)
  clear hr hn hc
  by_cases h2 : 2000 < n
  · have h2i : (2000 : Int) < (n : Int) := by omega
    go_enter Try.func3, Try.ntmps3
    go_wp2_with (go_at_call 11; refine (speaks_any _).mono ?_; rintro e w1 ⟨rfl, g1⟩; have G1 := Lib.hid (grown_trans' G0.out g1); have c1 : w1.cell? ⟨w.heap.size, 1, none⟩ = some (.slice A n cap) := (C0.out.kept g1).at_ rfl; clear g1)
    go_ret
    exact ⟨rfl, below_of_none G1.out⟩
  · have h2i : (n : Int) ≤ 2000 := by omega
    have HN2 := Lib.hid (show n ≤ 2000 by omega)
    clear h2
    go_enter Try.func3, Try.ntmps3
    go_wp2_with (first
      | (go_at_call 11; refine (speaks_any _).mono ?_; rintro e w1 ⟨rfl, g1⟩; have G1 := Lib.hid (grown_trans' G0.out g1); have C1 := Lib.hid (C0.out.kept g1); have c1 : w1.cell? ⟨w.heap.size, 1, none⟩ = some (.slice A n cap) := C1.out.at_ rfl; have c1a := cell_alloc c1 (.cells #[] 5); clear g1)
      | (at_builtin
         refine wpList_appB byteT rfl (.tmp 17) (.tmp 19) rfl (OwnB.new0 w1 w.heap.size 5 G1.out.size) ((H.out.below (below_rw G1.out (Nat.le_refl _))).alloc (G1.out.size) _) (by first | rfl | go_simp) (by rw [HN.out]; first | rfl | go_simp) (by rw [HN.out]; have := HN2.out; simp; omega) (by simp only [World.size_alloc]; have := G1.out.size; omega) ?_
         intro v2 w2 o2 g2 _ a2
         rw [List.nil_append] at o2
         obtain ⟨A2, cp2, hv2, r2, -⟩ := o2.shape
         rw [HN.out] at hv2
         subst hv2
         have O2 := Lib.hid o2
         have R2 := Lib.hid r2
         have g12 := grown_new (grown_alloc w1 (.cells #[] 5) none) g2 (Nat.le_refl _)
         have G2 := Lib.hid (grown_trans' G1.out g12)
         have C2 := Lib.hid (C1.out.kept g12)
         have d1 : w2.cell? ⟨w.heap.size, 1, none⟩ = some (.slice A n cap) := C2.out.at_ rfl
         have d0 : w2.cell? ⟨w.heap.size, 0, none⟩ = some (.int .i64 c) := C2.out.at_ rfl
         clear o2 g2 a2 r2 g12 c1a c1))
    obtain ⟨en, hen⟩ : ∃ en, (wrF (c, l)).2 = en := ⟨_, rfl⟩
    obtain ⟨bs, hbs⟩ : ∃ bs, (wrF (c, l)).1 = bs := ⟨_, rfl⟩
    have HBL := Lib.hid (show bs.length ≤ 2003 by rw [← hbs]; have := wrF_len c l n HN.out; have := HN2.out; omega)
    have HEN := Lib.hid hen
    have HBS := Lib.hid hbs
    have HW1 := Lib.hid (write_any w2 c HC.out A2 l n cp2 HN.out R2.out (by have := HN2.out; omega))
    rw [hen, hbs] at HW1
    clear hen hbs
    refine HW1.out.mono ?_
    rintro e w3 ⟨v3, rfl, o3, g3⟩
    obtain ⟨A3, c3, rfl, r3, -⟩ := o3.shape
    have O3 := Lib.hid o3
    have R3 := Lib.hid r3
    have G3 := Lib.hid (grown_trans' G2.out g3)
    have C3 := Lib.hid (C2.out.kept g3)
    have O23 := Lib.hid (OwnB.none_ O2.out g3)
    clear o3 r3 g3 d0 d1 HW1
    obtain ⟨bn, hbn⟩ : ∃ bn, bs.length = bn := ⟨_, rfl⟩
    have HBN := Lib.hid hbn
    rw [hbn]
    clear hbn
    go_wp2_with (refine wpList_loadC (off := 0) (p := [.int .i64 c, .slice A n cap]) aggF rfl (.tmp 1) rfl C3.out rfl (by simp) (by first | rfl | go_simp) ?_)
    have HW2 := Lib.hid (refWrite_any w3 c HC.out A l n cap HN.out ((H.out.below (below_rw G3.out (Nat.le_refl _))).more G3.out.size) (by have := HN2.out; omega))
    rw [HEN.out, HBS.out] at HW2
    refine HW2.out.mono ?_
    rintro e w4 ⟨v4, rfl, o4, g4⟩
    obtain ⟨A4, c4, rfl, r4, -⟩ := o4.shape
    rw [HBN.out]
    have G4 := Lib.hid (grown_trans' G3.out g4)
    have C4 := Lib.hid (C3.out.kept g4)
    have O34 := Lib.hid (OwnB.none_ O3.out g4)
    have e1 : w4.cell? ⟨w.heap.size, 1, none⟩ = some (.slice A n cap) := C4.out.at_ rfl
    obtain ⟨S, hS⟩ : ∃ S : ByteArray, S = ⟨bs.toArray⟩ := ⟨_, rfl⟩
    obtain ⟨T, hT⟩ : ∃ T : ByteArray, T = ⟨l.toArray⟩ := ⟨_, rfl⟩
    have q1 : (convert 22 9 (.slice A3 bn c3)).run Try.prog w4 = .ok (.string S) w4 := by rw [hS, ← HBN.out]; exact run_strB byteT Try.underlying9 (R3.out.below (below_rw g4 (Nat.le_refl _)))
    have q2 : (convert 22 9 (.slice A4 bn c4)).run Try.prog w4 = .ok (.string S) w4 := by rw [hS, ← HBN.out]; exact run_strB byteT Try.underlying9 r4
    have q3 : (convert 22 9 (.slice A2 n cp2)).run Try.prog w4 = .ok (.string T) w4 := by rw [hT, ← HN.out]; exact run_strB byteT Try.underlying9 ((OwnB.none_ O23.out g4).shape.elim fun A' h => by obtain ⟨cap', h1, h2, -⟩ := h; injection h1 with h3 _ h4; subst h3 h4; exact h2)
    have q4 : (convert 22 9 (.slice A n cap)).run Try.prog w4 = .ok (.string T) w4 := by rw [hT, ← HN.out]; exact run_strB byteT Try.underlying9 (H.out.below (below_rw G4.out (Nat.le_refl _)))
    clear o4 g4 r4 hS hT HW2
    by_cases he : en = 0
    · subst he
      obtain ⟨k1, k2, k3, k4⟩ := wrF_ok HEN.out
      have HFB := Lib.hid (show feedF [] 0 bs = ([(c, l)], [], 0) by rw [← HBS.out, k4]; exact feedF_frB ⟨k1, k2⟩ k3)
      clear k1 k2 k3 k4
      go_wp2_with (first
        | (go_at_call 14; refine (newReader_any _).mono ?_; rintro e w5 ⟨rfl, r5, g5⟩; have R5 := Lib.hid r5; have G5 := Lib.hid (grown_trans' G4.out g5); have C5 := Lib.hid (C4.out.kept g5); have O35 := Lib.hid (OwnB.none_ O34.out g5); clear r5 g5)
        | (go_at_call 15
           obtain ⟨A5, cp5, h5, r5, -⟩ := O35.out.shape
           rw [HBN.out] at h5
           injection h5 with h6 _ h7
           subst h6 h7
           refine (feed_open _ _ _ _ _ R5.out (.inl rfl) A3 bs bn c3 HBN.out r5 (fun a ha hl => ⟨fun e => ?sep, by simp [Value.ownBlock]⟩) (by have := HBL.out; have := HBN.out; omega)).mono ?_
           case sep =>
             subst ha
             have := (O34.out.lt a.block rfl).2
             omega
           rintro e w6 ⟨vf, v6, rfl, o6, r6, m6, -⟩
           rw [HFB.out] at o6 r6 ⊢
           obtain ⟨A6, c6, rfl, f6, -⟩ := o6.shape
           have R6 := Lib.hid r6
           have F6 := Lib.hid f6
           have G6 := Lib.hid (show w.grownBy w6 none from ⟨m6.os.trans G5.out.os, m6.tape.trans G5.out.tape, m6.output.trans G5.out.output, Nat.le_trans G5.out.size m6.size, fun k hk hn => (m6.block k (Nat.lt_of_lt_of_le hk G5.out.size) (fun e => by
             rcases e with e | e
             · have := G4.out.size; omega
             · simp [Value.ownBlock] at e)).trans (G5.out.block k hk hn)⟩)
           have C6 := Lib.hid (C5.out.mod m6 (fun e => by
             rcases e with e | e
             · have := G4.out.size; have := C4.out.lt; omega
             · simp [Value.ownBlock] at e))
           have d60 : w6.cell? ⟨w.heap.size, 0, none⟩ = some (.int .i64 c) := C6.out.at_ rfl
           have d61 : w6.cell? ⟨w.heap.size, 1, none⟩ = some (.slice A n cap) := C6.out.at_ rfl
           clear o6 r6 m6 f6)
        | (go_at_call 16
           refine (same_any A6 (some ⟨w6.heap.size, 0, none⟩) [(c, l)] c6 1 1 1 (w6.heap.size + 1) _ rfl rfl ((F6.out.below ((Below.refl _ _).alloc (Nat.le_refl _) _)).more (by omega)) (RF.new1 w6 _ 24 c A l cap n HN.out.symm (w6.heap.size + 1) (by omega) ((H.out.below (below_rw G6.out (Nat.le_refl _))).more G6.out.size) rfl) (by simp)).mono ?_
           rintro e w7 ⟨rfl, b7⟩
           have G67 := Lib.hid (show w6.grownBy w7 none from grown_trans' (grown_alloc w6 _ none) (none_of_below b7 (Nat.le_refl _)))
           clear b7)
        | (go_at_call 17; refine (rest_any w7 _ _ _ _ _ (R6.out.made G67.out)).mono ?_; rintro e w8 ⟨rfl, rfl⟩))
      go_ret
      exact ⟨rfl, below_of_none (grown_trans' G6.out G67.out)⟩
    · have hne : (en == 0) = false := by rw [beq_eq_false_iff_ne]; exact he
      go_wp2_with (go_at_call 14; refine (newReader_any _).mono ?_; rintro e w5 ⟨rfl, r5, g5⟩; have G5 := Lib.hid (grown_trans' G4.out g5); clear r5 g5)
      go_ret
      exact ⟨rfl, below_of_none G5.out⟩
end Go.Proofs.Ytajfaplaaafjiaa
