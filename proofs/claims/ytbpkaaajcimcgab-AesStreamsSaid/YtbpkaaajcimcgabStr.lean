/- The walk of Stream. -/
import Derived.Test.YtbpkaaajcimcgabNew
namespace Go.Proofs.Ytbpkaaajcimcgab
open Go.RowKit

/-- Stream, under a cipher that holds K. -/
def streamOf (K : List UInt8) (nonce : Nat) (l : List UInt8) : List UInt8 := (List.range l.length).map fun i => l.getD i 0 ^^^ (blockOf K (counterOf nonce (i / 16))).getD (i % 16) 0
theorem streamOf_length (K : List UInt8) (nonce : Nat) (l : List UInt8) : (streamOf K nonce l).length = l.length := by simp [streamOf]
/-- The block that lies ready ahead of byte k. -/
def turnAt (K : List UInt8) (nonce k : Nat) : List UInt8 := if k = 0 then zeros 16 else blockOf K (counterOf nonce ((k - 1) / 16))
theorem turnAt_length (K : List UInt8) (nonce k : Nat) : (turnAt K nonce k).length = 16 := by
  rw [turnAt]
  split
  · exact zeros_length 16
  · exact blockOf_length _ _
theorem turnAt_next (K : List UInt8) (nonce k : Nat) : turnAt K nonce (k + 1) = blockOf K (counterOf nonce (k / 16)) := by
  rw [turnAt, if_neg (by omega), Nat.add_sub_cancel]
theorem turnAt_same (K : List UInt8) (nonce k : Nat) (h : k % 16 ≠ 0) : turnAt K nonce k = turnAt K nonce (k + 1) := by
  rw [turnAt_next, turnAt, if_neg (by omega)]
  congr 2
  omega
theorem madeB (n : Nat) : madeCells #[.int .u8 0] n = (bcells (zeros n)).toArray := by
  apply Array.ext
  · simp [madeCells, bcells, zeros]
  · intro i h1 h2
    simp [madeCells, bcells, zeros, Nat.mod_one]
theorem byteT : ByteT Try.prog 32 5 := ⟨Try.underlying32, Try.underlying5, by kernel_rfl⟩
theorem run_makeB (n : Nat) (hn : n ≤ 1000000) (w : World) :
    (Instr.makeSlice 32 (.int .i64 (n : Int)) (.int .i64 (n : Int))).run Try.prog w = .ok (.slice (some ⟨w.heap.size, 0, none⟩) n n) (w.alloc (.cells (bcells (zeros n)).toArray 5)) := by
  obtain ⟨i0, hi, hz0, hz1, hz2⟩ := info_parts byteT.hi
  have h := run_make (P := Try.prog) w 32 5 i0 _ Try.underlying32 hi hz0 .i64 .i64 n n (by omega) (Int.le_refl _) (by rw [hz2]; omega) (by omega)
  rw [hz1, Int.toNat_natCast, Nat.mul_one] at h
  rw [← madeB]
  exact h
theorem OwnB.of_BB {w : World} {g base : Nat} {e : TypeId} {l : List UInt8} (h : BB w g e l) (hb : base ≤ g) (hm : l.length ≤ maxLen) {n : Nat} (hn : l.length = n) : OwnB w base e (.slice (some ⟨g, 0, none⟩) n n) l := by
  subst hn
  exact ⟨by simp [bcells_length], .inr ⟨g, l.length, _, rfl, hb, h, Nat.le_refl _, hm, by simp [bcells_length], by simp [← bcells_length l]⟩⟩
theorem zero16 (w : World) : (zeroValue 22).run Try.prog w = .ok (.agg (bcells (zeros 16)).toArray) w := by kernel_rfl

set_option maxRecDepth 10000 in
set_option maxHeartbeats 1000000 in
theorem stream_any (gC : Nat) (K : List UInt8) (nonce : Nat) (A : Option Addr) (l : List UInt8) (cap n : Nat) (w : World) (hK : BB w gC 43 K) (hKl : K.length = 432) (hn : l.length = n) (h : RB w w.heap.size A l cap) (hl : n ≤ 1000000) :
    Calls Try.prog 13 #[.pointer (some ⟨gC, 0, none⟩), .int .u64 (nonce : Int), .slice A n cap] w fun e w' => ∃ v, e = .returned v ∧ OwnB w' w.heap.size 5 v (streamOf K nonce l) ∧ Below w.heap.size w w' := by
  have hgC := hK.lt
  have HK := Lib.hid hK
  have HKL := Lib.hid hKl
  have HL := Lib.hid hn
  have H := Lib.hid h
  have hmk := run_makeB n hl
  clear hK hKl hn h
  go_enter Try.func13, Try.ntmps13
  go_wp2_with (refine wpList_allocB zero16 rfl rfl ?_)
  clear hmk
  go_loopw [16] (fun i wr => ∃ k : Nat, i = .int .i64 k ∧ k ≤ n ∧ BB wr w.heap.size 5 (mix (streamOf K nonce l) (zeros n) k) ∧ BB wr (w.heap.size + 1) 22 (turnAt K nonce k) ∧ Below w.heap.size w wr) (fun i _ => n - (intOf i).toNat)
  case atStart => exact ⟨0, rfl, by omega, by rw [mix_zero]; exact heap_alloc2_old _ _ _, heap_alloc2_new _ _ _, ((Below.refl _ _).alloc (Nat.le_refl _) _).alloc (by simp) _⟩
  case round =>
    obtain ⟨k, rfl, hk, hO, hT, hbel⟩ := hrel
    have hll : (streamOf K nonce l).length = (zeros n).length := by rw [streamOf_length, zeros_length, HL.out]
    by_cases hlt : k < n
    · obtain ⟨b, off, rfl, hb, hc⟩ := H.out.open_ (by rw [HL.out]; omega)
      obtain ⟨u1, hu1⟩ : ∃ u, l[k]? = some u := ⟨_, List.getElem?_eq_getElem (by rw [HL.out]; exact hlt)⟩
      have c1 := (hbel.cell (p := ⟨b, off + k, none⟩) hb).trans (hc k (by rw [HL.out]; exact hlt))
      have hu1' : l[k]'(by rw [HL.out]; exact hlt) = u1 := by rw [List.getElem?_eq_getElem (by rw [HL.out]; exact hlt)] at hu1; injection hu1
      rw [hu1'] at c1
      obtain ⟨q, hq⟩ : ∃ q, q = k / 16 := ⟨_, rfl⟩
      obtain ⟨m, hm⟩ : ∃ m, m = k % 16 := ⟨_, rfl⟩
      obtain ⟨u2, hu2⟩ : ∃ u, (blockOf K (counterOf nonce q))[m]? = some u := ⟨_, List.getElem?_eq_getElem (by rw [blockOf_length]; omega)⟩
      have c3 := hO.at_ (i := k) (u := 0) (by rw [mix_get _ _ hll _ _ (Nat.le_refl _), zeros_at n k hlt])
      have f3 := hO.free k
      have hak : (streamOf K nonce l)[k]? = some (u1 ^^^ u2) := by
        rw [streamOf, List.getElem?_map, List.getElem?_range (by rw [HL.out]; exact hlt)]
        simp only [Option.map_some, List.getD, hu1, Option.getD_some]
        rw [← hq, ← hm, hu2]
        rfl
      have hx := xor_u8 u1 u2
      have hs := mix_set (streamOf K nonce l) (zeros n) hll k _ hak
      obtain ⟨z, hz⟩ : ∃ z, z = u1 ^^^ u2 := ⟨_, rfl⟩
      rw [← hz] at hx hs
      have hki : (k : Int) < (n : Int) := by omega
      have w1 : (k : Int) / 16 = (q : Int) := by omega
      have w2 : (k : Int) % 16 = (m : Int) := by omega
      have b2 : (m : Int) < 16 := by omega
      have hqb : (q : Int) < 1000000 := by omega
      have HS := Lib.hid hs
      have HU2 := Lib.hid hu2
      have HO := Lib.hid hO
      have HT := Lib.hid hT
      have HB := Lib.hid hbel
      have hbs := hbel.size
      have hlo := hO.lt
      have hlt2 := hT.lt
      have HTN : Hid (turnAt K nonce (k + 1) = blockOf K (counterOf nonce q)) := by rw [hq]; exact turnAt_next K nonce k
      by_cases hm0 : m = 0
      · subst hm0
        clear hs hu2 hO hT hbel hak hu1 hu1' hq hm hz hll
        go_wp2_with (first
          | (go_at_call 23; refine (counter_any nonce q _).mono ?_; rintro e w3 ⟨rfl, hb3⟩; have HB3 := Lib.hid hb3; have hz3 := hb3.size; clear hb3)
          | (go_at_call 10; refine (block_any gC K _ _ (HK.out.below (HB.out.trans (HB3.out.mono hbs)) hgC) HKL.out (counterOf_length _ _)).mono ?_; rintro e w4 ⟨rfl, hb4⟩; have HB4 := Lib.hid (HB3.out.trans (hb4.mono hz3)); clear hb4)
          | (refine wpList_storeB arr16 rfl (.tmp 8) (.tmp 30) rfl (HT.out.below HB4.out hlt2) (turnAt_length _ _ _) (blockOf_length K _) rfl rfl ?_; intro w5 h5 hg5; have d5 := h5.at_ HU2.out; have h6 := (HO.out.below HB4.out hlo).grown hg5 (by omega); have c6 := h6.cell (i := k) (by rw [mix_length _ _ _ (by rw [streamOf_length, zeros_length, HL.out]), zeros_length]; exact hlt); have f6 := h6.free k; have HT5 := Lib.hid h5; have HO5 := Lib.hid h6; have HB5 := Lib.hid ((HB.out.trans (HB4.out.mono hbs)).trans (below_of_grown hg5 (by omega) (by have := HB4.out.size; omega))); clear h5 h6 hg5))
        go_roundw
        case rel => exact ⟨k + 1, by go_num, by omega, HS.out ▸ HO5.out.set_ k z _ rfl, by rw [HTN.out]; exact HT5.out.far (by simp) _, HB5.out.setCell (Nat.le_refl _) _⟩
        case measure => simp [intOf]; omega
      · have hTT : turnAt K nonce k = blockOf K (counterOf nonce q) := by rw [turnAt_same K nonce k (by omega), HTN.out]
        rw [hTT] at hT
        have c2 := hT.at_ hu2
        have HTT := Lib.hid hT
        have hmi : ((m : Int) == 0) = false := by rw [beq_eq_false_iff_ne]; omega
        clear hs hu2 hO hT hbel hak hu1 hu1' hq hm hz hll hm0 hTT
        go_wp2
        go_roundw
        case rel => exact ⟨k + 1, by go_num, by omega, HS.out ▸ HO.out.set_ k z _ rfl, by rw [HTN.out]; exact HTT.out.far (by simp) _, HB.out.setCell (Nat.le_refl _) _⟩
        case measure => simp [intOf]; omega
    · obtain rfl : k = n := by omega
      have hm := mix_all (streamOf K nonce l) (zeros k) (k := k) (by rw [zeros_length]; exact Nat.le_refl _) (by rw [streamOf_length, HL.out]; exact Nat.le_refl _)
      rw [hm] at hO
      have HO := Lib.hid (OwnB.of_BB hO (Nat.le_refl _) (by rw [streamOf_length, HL.out]; unfold maxLen; omega) (n := k) (by rw [streamOf_length, HL.out]))
      have HB := Lib.hid hbel
      clear hO hT hbel hll hm
      go_wp2
      go_ret
      exact ⟨_, rfl, HO.out, HB.out⟩
end Go.Proofs.Ytbpkaaajcimcgab
