/- The walk of TlvSplits. -/
import Derived.Test.YtmkdcnhhcfblgaaSpoW
namespace Go.Proofs.Ytmkdcnhhcfblgaa
open Go.RowKit

theorem fieldB_firstOf (l : List UInt8) (h : l ≠ []) (he : (firstOf l).2.2 = 0) : chk (firstOf l).1 = 0 ∧ fieldB (firstOf l).1 ++ (firstOf l).2.1 = l := by
  by_cases h1 : l.headD 0 = 0
  · rw [firstOf, if_pos h1] at he; simp at he
  by_cases h2 : l.length < 3
  · rw [firstOf, if_neg h1, if_pos h2] at he; simp at he
  by_cases h3 : l.length - 3 < (l.getD 1 0).toNat * 256 + (l.getD 2 0).toNat
  · rw [firstOf, if_neg h1, if_neg h2, if_pos h3] at he; simp at he
  have ea : firstOf l = ((((l.headD 0).toNat : Int), (l.drop 3).take ((l.getD 1 0).toNat * 256 + (l.getD 2 0).toNat)), l.drop (3 + ((l.getD 1 0).toNat * 256 + (l.getD 2 0).toNat)), 0) := by
    rw [firstOf, if_neg h1, if_neg h2, if_neg h3]
  rw [ea]
  match l, h2 with
  | [], h2 => simp at h2
  | [_], h2 => simp at h2
  | [_, _], h2 => simp at h2
  | x0 :: x1 :: x2 :: r, _ =>
    have hx0 := x0.toNat_lt
    have hx1 := x1.toNat_lt
    have hx2 := x2.toNat_lt
    have hz : x0.toNat ≠ 0 := fun hz => h1 (UInt8.toNat_inj.1 (by simpa using hz))
    simp only [List.headD_cons, List.getD_cons_succ, List.getD_cons_zero, List.drop_succ_cons, List.drop_zero, List.length_cons] at h3 ⊢
    have hlen : (r.take (x1.toNat * 256 + x2.toNat)).length = x1.toNat * 256 + x2.toNat := by rw [List.length_take]; omega
    constructor
    · unfold chk
      rw [if_neg (by simp only; omega), if_neg (by simp only [hlen]; omega)]
    · have e1 : UInt8.ofNat ((x1.toNat * 256 + x2.toNat) / 256) = x1 := UInt8.toNat_inj.1 (by simp; omega)
      have e2 : UInt8.ofNat (x1.toNat * 256 + x2.toNat) = x2 := UInt8.toNat_inj.1 (by simp)
      have e0 : UInt8.ofNat ((x0.toNat : Int).toNat) = x0 := UInt8.toNat_inj.1 (by simp)
      unfold fieldB
      simp only [hlen, e0, e1, e2]
      rw [show 3 + (x1.toNat * 256 + x2.toNat) = (x1.toNat * 256 + x2.toNat) + 1 + 1 + 1 by omega]
      simp only [List.drop_succ_cons, List.cons_append, List.nil_append, List.take_append_drop]
theorem joinOf_splitF : ∀ (f : Nat) (l : List UInt8) (acc : List UInt8), l.length ≤ f → (splitF f l []).2 = 0 → joinOf (splitF f l []).1 acc = (acc ++ l, 0)
  | 0, l, acc, h, _ => by
    obtain rfl : l = [] := List.eq_nil_of_length_eq_zero (by omega)
    simp [splitF, joinOf]
  | f + 1, l, acc, h, he => by
    unfold splitF at he ⊢
    by_cases h0 : l = []
    · subst h0; simp [joinOf]
    · rw [if_neg h0] at he ⊢
      by_cases h1 : (firstOf l).2.2 = 0
      · rw [if_pos h1] at he ⊢
        have hsh := firstOf_shorter l h1
        obtain ⟨k1, k2⟩ := fieldB_firstOf l h0 h1
        rw [splitF_acc f _ _ (by omega)] at he ⊢
        by_cases h2 : (splitF f (firstOf l).2.1 []).2 = 0
        · rw [if_pos h2]
          simp only [List.nil_append, List.cons_append, joinOf, k1, if_true]
          rw [joinOf_splitF f _ _ (by omega) h2, List.append_assoc, k2]
        · rw [if_neg h2] at he; exact absurd he h2
      · rw [if_neg h1] at he; exact absurd he h1
theorem joinOf_splitOf (l : List UInt8) (h : (splitOf l).2 = 0) : joinOf (splitOf l).1 [] = (l, 0) := by
  have := joinOf_splitF l.length l [] (Nat.le_refl _) h
  simpa [splitOf] using this
theorem tot_splitF : ∀ (f : Nat) (l : List UInt8) (acc : List Fd), tot (splitF f l acc).1 ≤ tot acc + l.length
  | 0, l, acc => by simp [splitF]
  | f + 1, l, acc => by
    unfold splitF
    by_cases h0 : l = []
    · rw [if_pos h0]; simp
    · rw [if_neg h0]
      by_cases h1 : (firstOf l).2.2 = 0
      · rw [if_pos h1]
        have ih := tot_splitF f (firstOf l).2.1 (acc ++ [(firstOf l).1])
        have k2 := congrArg List.length (fieldB_firstOf l h0 h1).2
        rw [List.length_append, fieldB_length] at k2
        have ht : tot (acc ++ [(firstOf l).1]) = tot acc + ((firstOf l).1.2.length + 3) := by simp [tot]
        omega
      · rw [if_neg h1]; simp [tot]
theorem tot_splitOf (l : List UInt8) : tot (splitOf l).1 ≤ l.length := by
  have := tot_splitF l.length l []
  simpa [splitOf, tot] using this
theorem byte_splitF : ∀ (f : Nat) (l : List UInt8) (acc : List Fd), (∀ x ∈ acc, 0 ≤ x.1 ∧ x.1 < 256) → ∀ x ∈ (splitF f l acc).1, 0 ≤ x.1 ∧ x.1 < 256
  | 0, l, acc, h => by simpa [splitF] using h
  | f + 1, l, acc, h => by
    unfold splitF
    split
    · exact h
    · split
      · refine byte_splitF f _ _ fun x hx => ?_
        rcases List.mem_append.1 hx with hx | hx
        · exact h x hx
        · simp at hx
          subst hx
          exact firstOf_byte l
      · intro x hx; cases hx
theorem len_of_tot : ∀ (fs : List Fd) (f : Fd), f ∈ fs → f.2.length ≤ tot fs
  | [], f, h => by cases h
  | g :: fs, f, h => by
    have ht : tot (g :: fs) = g.2.length + 3 + tot fs := by simp [tot]
    rcases List.mem_cons.1 h with rfl | h
    · omega
    · have := len_of_tot fs f h; omega

set_option maxRecDepth 100000 in
set_option maxHeartbeats 1000000 in
theorem walk_TlvSplits (w : World) (A : Option Addr) (l : List UInt8) (cap : Nat) (h : RB w w.heap.size A l cap) :
    Calls Try.prog 5 #[.slice A l.length cap] w fun e w' => e = .returned (.bool true) ∧ Below w.heap.size w w' := by
  have hl : l.length ≤ 9223372036854775807 := Nat.le_trans h.1 h.2.1
  have H := Lib.hid h
  clear h
  by_cases hbig : 100000 < l.length
  · go_enter Try.func5, Try.ntmps5
    go_wp2_with (go_at_call 10; refine (speaks_any _).mono ?_; rintro e w1 ⟨rfl, hb1⟩)
    go_ret
    exact ⟨rfl, hb1⟩
  go_enter Try.func5, Try.ntmps5
  go_wp2_with (first
    | (go_at_call 10
       refine (speaks_any _).mono ?_
       rintro e w1 ⟨rfl, hb1⟩
       have hs1 := hb1.size)
    | (at_builtin
       refine wpList_appB byteT rfl (.tmp 15) (.tmp 16) rfl (OwnB.new0 w1 w.heap.size _ hs1) ((H.out.below hb1).alloc hs1 _) rfl rfl (by simp; omega) (by simp; omega) ?_
       intro v2 w2 hown2 hg2 _ hat2))
  rw [List.nil_append] at hown2
  have hb2 : Below w.heap.size w w2 := (hb1.alloc hs1 _).grown hg2 (by simp; omega) (fun k hk => by simp [Value.ownBlock] at hk; omega)
  have hs2 := hb2.size
  obtain ⟨A2, c2, rfl, hr2, -⟩ := hown2.shape
  have HR2 := Lib.hid hr2
  clear hown2 hg2 hat2 hb1 hr2
  refine (split_any A2 l c2 l.length w2 rfl HR2.out (by omega)).mono ?_
  rintro e w3 ⟨x, rfl, hx, hb23⟩
  have hb3 := hb2.trans (hb23.mono hs2)
  have HR3 := Lib.hid (HR2.out.below hb23)
  have hs3 := hb3.size
  have hs23 := hb23.size
  have HX := Lib.hid hx
  clear hx HR2
  go_wp2_with fail
  refine (refSplit_any A l cap l.length w3 rfl ((H.out.below hb3).more hs3) (by omega)).mono ?_
  rintro e w4 ⟨y, rfl, hy, hb34⟩
  have hb4 := hb3.trans (hb34.mono hs3)
  have HR4 := Lib.hid (HR3.out.below (hb34.mono hs23))
  have hs4 := hb4.size
  have hs34 := hb34.size
  have HX4 := Lib.hid (HX.out.below hb34)
  obtain ⟨X, cx, rfl, hrx, -⟩ := HX4.out.shape
  obtain ⟨Y, cy, rfl, hry, -⟩ := hy.shape
  have HY := Lib.hid hry
  have HXR := Lib.hid hrx
  have HL4 := Lib.hid (H.out.below hb4)
  have hfl := splitOf_len l
  have HJ := joinOf_splitOf l
  have HTT := tot_splitOf l
  have HBY := byte_splitF l.length l [] (by simp)
  have HER := splitOf_err l
  change ∀ x ∈ (splitOf l).1, 0 ≤ x.1 ∧ x.1 < 256 at HBY
  clear hy hry hrx hb34 hb23 HX HR3
  generalize hsv : splitOf l = sv at *
  obtain ⟨fs, en⟩ := sv
  clear hsv
  simp only at *
  go_wp2_with fail
  refine (same_any X Y fs cx cy fs.length fs.length w4.heap.size w4 rfl rfl HXR.out HY.out (Nat.le_refl _)).mono ?_
  rintro e w5 ⟨rfl, hb45⟩
  have hb5 := hb4.trans (hb45.mono hs4)
  have hs45 := hb45.size
  have HR5 := Lib.hid (HR4.out.below (hb45.mono (Nat.le_trans hs23 hs34)))
  have HL5 := Lib.hid (HL4.out.below (hb45.mono hs4))
  have q1 := run_strB byteT Try.underlying9 HR5.out
  have q2 := run_strB byteT Try.underlying9 HL5.out
  have HB5 := Lib.hid hb5
  have HB45 := Lib.hid hb45
  clear hb5 hb4 hb3 hb2 hb45 HY
  rcases HER with rfl | h | h
  · have HJ' := HJ rfl
    have HBY' := Lib.hid HBY
    have hlen5 : fs.length ≤ 100000 := by omega
    have HJN := Lib.hid (join_any X fs cx w5 ((HXR.out.below HB45.out).more hs45) (fun f hf => by have := HBY f hf; omega) (by omega))
    rw [HJ'] at HJN
    clear HJ HJ' HBY
    go_wp2_with fail
    refine HJN.out.mono ?_
    rintro e w6 ⟨bv, rfl, hownb, hb56⟩
    obtain ⟨Vb, cb, rfl, hrb, hlo⟩ := hownb.shape
    have hs56 := hb56.size
    have hb46 : Below w4.heap.size w4 w6 := HB45.out.trans (hb56.mono hs45)
    have HB6 := Lib.hid (HB5.out.trans (hb56.mono (by omega)))
    have HR6 := Lib.hid (HR5.out.below (hb56.mono (by omega)))
    have HL6 := Lib.hid (HL5.out.below (hb56.mono (by omega)))
    have HSP := Lib.hid (spoil_any (.slice X fs.length cx) fs w2.heap.size w4.heap.size w6 (HX4.out.toh.below hb46) (by omega) (fun f hf => by have := len_of_tot fs f hf; omega))
    have HRB := Lib.hid hrb
    have HLO := Lib.hid hlo
    clear HJN hownb hrb hlo hb56 hb46 q1 q2
    go_wp2_with fail
    refine HSP.out.mono ?_
    rintro e w7 ⟨rfl, hb67, hup⟩
    have hrb7 : RB w7 w6.heap.size Vb l cb := by
      obtain ⟨r1, r2, r3⟩ := HRB.out
      exact ⟨r1, r2, r3.imp id fun ⟨a, hA, hc⟩ => ⟨a, hA, fun k u hu => ⟨(hc k u hu).1, (World.cell?_of_block (hup _ (by rw [add_block]; have := HLO.out a hA; omega))).trans (hc k u hu).2⟩⟩⟩
    have q3 := run_strB byteT Try.underlying9 hrb7
    have q4 := run_strB byteT Try.underlying9 (HR6.out.below hb67)
    have q5 := run_strB byteT Try.underlying9 (HL6.out.below (hb67.mono hs2))
    have hend := HB6.out.trans (hb67.mono hs2)
    have HUP := Lib.hid hup
    clear hup hrb7 HRB HLO HSP hb67
    go_wp2_with fail
    go_ret
    exact ⟨rfl, hend⟩
  · injection h with h1 h2
    subst h1 h2
    clear HJ HBY
    go_wp2
    go_ret
    exact ⟨rfl, HB5.out⟩
  · injection h with h1 h2
    subst h1 h2
    clear HJ HBY
    go_wp2
    go_ret
    exact ⟨rfl, HB5.out⟩
end Go.Proofs.Ytmkdcnhhcfblgaa
