/- Numbers in eight bytes; seal's widen. -/
import Derived.Test.YthgejidimnbplaaGreatDoorSrt
import Derived.Test.YthgejidimnbplaaGreatDoorBsl
import Derived.Test.YthgejidimnbplaaGreatDoorTkn
import Derived.Test.YthgejidimnbplaaGreatDoorNumW
namespace Go.Proofs.YthgejidimnbplaaGreatDoor
open Go.RowKit Go.Maps

/-- All eight bytes of a number. -/
def wide8 (n : Nat) : List UInt8 := zeros (8 - (numB n).length) ++ numB n
theorem numB_len8 (n : Nat) : (numB n).length ≤ 8 := by unfold numB; rw [List.length_reverse]; exact leB_length 8 n
theorem wide8_len (n : Nat) : (wide8 n).length = 8 := by
  unfold wide8
  have := numB_len8 n
  rw [List.length_append, zeros_length]
  omega
theorem foldl_zeros : ∀ (k : Nat) (t : List UInt8), (zeros k ++ t).foldl (fun n c => n * 256 + c.toNat) 0 = t.foldl (fun n c => n * 256 + c.toNat) 0
  | 0, t => rfl
  | k + 1, t => by
    have ih := foldl_zeros k t
    show (List.replicate (k + 1) 0 ++ t).foldl _ 0 = _
    rw [List.replicate_succ, List.cons_append, List.foldl_cons]
    exact ih
theorem numOf_zeros (k : Nat) (t : List UInt8) : numOf (zeros k ++ t) = numOf t := foldl_zeros k t
theorem numOf_wide (n : Nat) (h : n < 18446744073709551616) : numOf (wide8 n) = n := by
  unfold wide8
  rw [numOf_zeros]
  have h1 := readOf_numB n h
  unfold readOf at h1
  split at h1
  · injection h1
  · injection h1 with _ h2
    cases h2
theorem foldl_injB : ∀ (l m : List UInt8) (a b : Nat), l.length = m.length → l.foldl (fun n c => n * 256 + c.toNat) a = m.foldl (fun n c => n * 256 + c.toNat) b → a = b ∧ l = m
  | [], [], _, _, _, h => ⟨h, rfl⟩
  | [], _ :: _, _, _, h, _ => by simp at h
  | _ :: _, [], _, _, h, _ => by simp at h
  | c :: l, d :: m, a, b, h, he => by
    rw [List.foldl_cons, List.foldl_cons] at he
    obtain ⟨h1, rfl⟩ := foldl_injB l m _ _ (by simpa using h) he
    have hc := c.toNat_lt
    have hd := d.toNat_lt
    have e1 : c.toNat = d.toNat := by omega
    exact ⟨by omega, by rw [UInt8.toNat_inj.1 e1]⟩
theorem numOf_inj {l m : List UInt8} (h : l.length = m.length) (he : numOf l = numOf m) : l = m := (foldl_injB l m 0 0 h he).2
theorem numOf_lt8 {l : List UInt8} (h : l.length = 8) : numOf l < 18446744073709551616 := by
  have := foldl_lt l 0 0 (by decide)
  rw [h] at this
  exact this
theorem wide_of {l : List UInt8} (h : l.length = 8) : wide8 (numOf l) = l := numOf_inj (by rw [wide8_len, h]) (numOf_wide _ (numOf_lt8 h))
theorem dropz : ∀ l : List UInt8, ∃ j, j ≤ l.length ∧ l = zeros j ++ l.dropWhile ([(0 : UInt8)].contains ·) ∧ (l.dropWhile ([(0 : UInt8)].contains ·)).head? ≠ some 0
  | [] => ⟨0, Nat.le_refl _, rfl, by simp⟩
  | c :: l => by
    by_cases hc : c = 0
    · obtain ⟨j, h1, h2, h3⟩ := dropz l
      subst hc
      refine ⟨j + 1, by simp; omega, ?_, ?_⟩
      · show (0 : UInt8) :: l = List.replicate (j + 1) 0 ++ List.dropWhile _ (0 :: l)
        rw [List.dropWhile_cons, if_pos (by decide), List.replicate_succ, List.cons_append]
        congr 1
      · rw [List.dropWhile_cons, if_pos (by decide)]
        exact h3
    · refine ⟨0, Nat.zero_le _, ?_, ?_⟩
      · rw [List.dropWhile_cons, if_neg (by simp [hc])]
        rfl
      · rw [List.dropWhile_cons, if_neg (by simp [hc])]
        simp [hc]
/-- What is read behind the noughts of eight bytes is their number. -/
theorem trim_read {l : List UInt8} (h : l.length = 8) : readOf (l.dropWhile ([(0 : UInt8)].contains ·)) = (numOf l, true) := by
  obtain ⟨j, h1, h2, h3⟩ := dropz l
  have hl : (l.dropWhile ([(0 : UInt8)].contains ·)).length ≤ 8 := by
    have := congrArg List.length h2
    rw [List.length_append] at this
    omega
  unfold readOf
  rw [if_pos ⟨hl, h3⟩]
  conv => rhs; rw [h2, numOf_zeros]
/-- Where the bytes of a slice that isn't empty lie. -/
theorem RB.ptr {w : World} {B : Nat} {A : Option Addr} {l : List UInt8} {c : Nat} (h : RB w B A l c) (hp : 0 < l.length) : ∃ ad, A = some ad ∧ ∀ j v, (bcells l)[j]? = some v → w.cell? (ad.add j) = some v := by
  obtain ⟨h1, h2, ⟨_, h3⟩ | ⟨a, h3, h4⟩⟩ := h
  · omega
  · refine ⟨a, h3, fun j v hj => ?_⟩
    rw [bcells, List.getElem?_map] at hj
    cases hu : l[j]? with
    | none => rw [hu] at hj; cases hj
    | some u =>
      rw [hu] at hj
      injection hj with hj
      rw [← hj]
      exact (h4 j u hu).2
theorem zero8_run (w : World) : (zeroValue 80).run Tryz.prog w = .ok (.agg (bcells (zeros 8)).toArray) w := by kernel_rfl
theorem agg8 : AggT Tryz.prog 80 8 := ⟨fun _ => by kernel_rfl, by kernel_rfl⟩
theorem sz1B : (Tryz.prog.info? 5).map (·.size) = some 1 := by kernel_rfl

set_option maxRecDepth 10000 in
set_option maxHeartbeats 1000000 in
theorem widen_any (n : Nat) (w : World) (hn : n < 18446744073709551616) :
    Calls Tryz.prog 43 #[.int .u64 n] w fun e w' => e = .returned (.agg (bcells (wide8 n)).toArray) ∧ w.grownBy w' none := by
  have HN := Lib.hid hn
  have Z0 := Lib.hid (CB.new w 80 (bcells (zeros 8)))
  have G0 := Lib.hid (grown_alloc w (.cells (bcells (zeros 8)).toArray 80) none)
  have Z1 := Lib.hid (CB.new1 w (.cells (bcells (zeros 8)).toArray 80) 80 (bcells (zeros 8)))
  have Z01 := Lib.hid (Z0.out.alloc (.cells (bcells (zeros 8)).toArray 80))
  have G1 := Lib.hid (grown_trans' G0.out (grown_alloc _ (.cells (bcells (zeros 8)).toArray 80) none))
  have HLZ := Lib.hid (show (bcells (zeros 8)).length = 8 by rw [bcells_length, zeros_length])
  obtain ⟨k, hk⟩ : ∃ k, (numB n).length = k := ⟨_, rfl⟩
  obtain ⟨q, hq⟩ : ∃ q, 8 - k = q := ⟨_, rfl⟩
  have HK := Lib.hid hk
  have hk8 : k ≤ 8 := by rw [← hk]; exact numB_len8 n
  have HQK := Lib.hid (show q + k = 8 by omega)
  have hsub : (8 : Int) - (k : Int) = (q : Int) := by omega
  have hqi : (q : Int) ≤ 8 := by omega
  have hqn : q ≤ 8 := by omega
  have h8q : 8 - q = k := by omega
  have HW := Lib.hid (show over (bcells (zeros 8)) q (bcells (numB n)) = bcells (wide8 n) by
    unfold over wide8
    rw [bcells_length, hk, hq, show q + k = 8 by omega, List.drop_eq_nil_of_le (by rw [bcells_length, zeros_length]; exact Nat.le_refl _), List.append_nil]
    simp only [bcells, List.map_append]
    congr 1
    show List.take q (List.map _ (List.replicate 8 0)) = List.map _ (List.replicate q 0)
    rw [List.map_replicate, List.map_replicate, List.take_replicate, Nat.min_eq_left hqn])
  have HL8 := Lib.hid (show (bcells (wide8 n)).length = 8 by rw [bcells_length, wide8_len])
  have TK0 := Lib.hid True.intro
  by_cases h0 : k = 0
  · have HZ := Lib.hid (show numB n = [] from List.eq_nil_of_length_eq_zero (by rw [hk, h0]))
    have HW0 := Lib.hid (show bcells (zeros 8) = bcells (wide8 n) by rw [← HW.out, HZ.out]; simp [over, bcells])
    have hq8 : q = 8 := by omega
    clear hn hk hq hk8
    subst h0
    subst hq8
    go_enter Tryz.func43, Tryz.ntmps43
    go_wp2_with (first
      | (have hx := TK0; refine wpList_allocC zero8_run rfl rfl ?_)
      | (go_at_call 26; refine (num_any n _ HN.out).mono ?_; rintro e w2 ⟨v, rfl, o, b⟩; obtain ⟨A, c, rfl, r, -⟩ := o.shape; rw [HK.out]; have R2 := Lib.hid r; have C0 := Lib.hid (Z01.out.below b Z01.out.lt); have C1 := Lib.hid (Z1.out.below b Z1.out.lt); have G2 := Lib.hid (grown_trans' G1.out (none_of_below b (Nat.le_refl _))); clear o b r TK0; have TK1 := Lib.hid True.intro)
      | (have hx := TK1; refine wpList_copy_nothing rfl (.tmp 10) (.tmp 11) 30 30 rfl 5 Tryz.underlying30 sz1B _ _ 0 0 0 c (by first | rfl | go_simp) (by first | rfl | go_simp) rfl ?_)
      | (have hx := TK1; refine wpList_loadC (off := 0) (p := bcells (zeros 8)) agg8 rfl (.tmp 3) rfl C1.out (take_all HLZ.out) (by rw [HLZ.out]; omega) (by first | rfl | go_simp) ?_; clear hx TK1; have TK2 := Lib.hid True.intro)
      | (have hx := TK2; refine wpList_storeC (off := 0) (p := bcells (zeros 8)) agg8.hi rfl (.tmp 2) (.tmp 13) rfl (.agg (bcells (zeros 8)).toArray) rfl (bcells_one _) C0.out HLZ.out (by rw [HLZ.out]; omega) (by first | rfl | go_simp) (by first | rfl | go_simp) ?_; intro w3 h3 g3; rw [over_all _ _ (Nat.le_refl _)] at h3; have C3 := Lib.hid h3; have G3 := Lib.hid (none_new G2.out g3 (Nat.le_refl _)); clear h3 g3 hx TK2))
    refine bodyPost_ret (results_C1 rfl _ agg8 C3.out HLZ.out rfl) rfl ⟨by rw [HW0.out], G3.out⟩
  · have HK0 := Lib.hid (show 0 < k by omega)
    have hq8 : ¬ (8 = q) := by omega
    have hq9 : ¬ (q = 8) := by omega
    clear hn hk hq hk8 h0
    go_enter Tryz.func43, Tryz.ntmps43
    go_wp2_with (first
      | (have hx := TK0; refine wpList_allocC zero8_run rfl rfl ?_)
      | (go_at_call 26; refine (num_any n _ HN.out).mono ?_; rintro e w2 ⟨v, rfl, o, b⟩; obtain ⟨A, c, rfl, r, -⟩ := o.shape; rw [HK.out]; obtain ⟨ad, rfl, hsrc⟩ := RB.ptr r (by rw [HK.out]; exact HK0.out); have HSRC := Lib.hid hsrc; have C0 := Lib.hid (Z01.out.below b Z01.out.lt); have C1 := Lib.hid (Z1.out.below b Z1.out.lt); have G2 := Lib.hid (grown_trans' G1.out (none_of_below b (Nat.le_refl _))); clear o b r hsrc TK0; have TK1 := Lib.hid True.intro)
      | (have hx := TK1; refine wpList_copyC (off := q) rfl (.tmp 10) (.tmp 11) 30 30 rfl 5 Tryz.underlying30 sz1B k k ad k c (by first | rfl | go_simp) (by first | rfl | go_simp) C1.out (bcells (numB n)) (by rw [bcells_length, HK.out]; exact (Nat.min_self _).symm) HSRC.out (by rw [bcells_length, HK.out, HLZ.out, HQK.out]; exact Nat.le_refl _) (bcells_one _) ?_; intro w3 h3 g3; rw [HW.out] at h3; have C3 := Lib.hid h3; have C30 := Lib.hid (C0.out.grown g3 (by omega)); have G3 := Lib.hid (none_new G2.out g3 (by omega)); clear h3 g3 hx TK1; have TK2 := Lib.hid True.intro)
      | (have hx := TK2; refine wpList_loadC (off := 0) (p := bcells (wide8 n)) agg8 rfl (.tmp 3) rfl C3.out (take_all HL8.out) (by rw [HL8.out]; omega) (by first | rfl | go_simp) ?_; clear hx TK2; have TK3 := Lib.hid True.intro)
      | (have hx := TK3; refine wpList_storeC (off := 0) (p := bcells (wide8 n)) agg8.hi rfl (.tmp 2) (.tmp 13) rfl (.agg (bcells (wide8 n)).toArray) rfl (bcells_one _) C30.out HL8.out (by rw [HLZ.out]; omega) (by first | rfl | go_simp) (by first | rfl | go_simp) ?_; intro w4 h4 g4; rw [over_all _ _ (Nat.le_of_eq (by rw [HLZ.out, HL8.out]))] at h4; have C4 := Lib.hid h4; have G4 := Lib.hid (none_new G3.out g4 (Nat.le_refl _)); clear h4 g4 hx TK3))
    refine bodyPost_ret (results_C1 rfl _ agg8 C4.out HL8.out rfl) rfl ⟨rfl, G4.out⟩
end Go.Proofs.YthgejidimnbplaaGreatDoor
