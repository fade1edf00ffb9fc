/- The walk of Block of the document's answer. -/
import Derived.Test.YtbpkaaajcimcgabRNe
import Derived.Test.YtbpkaaajcimcgabInj
namespace Go.Proofs.Ytbpkaaajcimcgab
open Go.RowKit

theorem tms_three (c : UInt8) : tms c 3 = dbl c ^^^ c := forall_u8 (p := fun c => tms c 3 = dbl c ^^^ c) (by decide +kernel) c
theorem times2_same (c : UInt8) (w : World) : Calls Try.prog 22 #[.int .u8 (c.toNat : Int), .int .u8 2] w fun e w' => e = .returned (.int .u8 ((dbl c).toNat : Int)) ∧ w' = w := by
  have := times_any c 2 w
  rw [tms_two] at this
  exact this.mono fun _ _ h => ⟨h.1, h.2.symm⟩
theorem times3_same (c : UInt8) (w : World) : Calls Try.prog 22 #[.int .u8 (c.toNat : Int), .int .u8 3] w fun e w' => e = .returned (.int .u8 ((dbl c ^^^ c).toNat : Int)) ∧ w' = w := by
  have := times_any c 3 w
  rw [tms_three] at this
  exact this.mono fun _ _ h => ⟨h.1, h.2.symm⟩
theorem wrapN (x : Nat) (h : x < 1000000) : IntKind.i64.wrap (x : Int) = (x : Int) := by rw [IntKind.wrap_i64]; omega
theorem wrap4 (c p4 : Nat) (h : p4 = 4 * c) (hc : c < 1000) : IntKind.i64.wrap (4 * (c : Int)) = (p4 : Int) := by rw [IntKind.wrap_i64]; omega
theorem wrapA (a b p : Nat) (h : p = a + b) (hp : p < 1000) : IntKind.i64.wrap ((a : Int) + (b : Int)) = (p : Int) := by rw [IntKind.wrap_i64]; omega
theorem ixN (p4 j d : Nat) (hp : p4 ≤ 12) (hj : j < 4) (hd : d < 4) : ∃ j1 m1 p1 : Nat, IntKind.i64.wrap ((j : Int) + (d : Int)) = (j1 : Int) ∧ (j1 : Int).tmod 4 = (m1 : Int) ∧ IntKind.i64.wrap ((p4 : Int) + (m1 : Int)) = (p1 : Int) ∧ p1 = p4 + (j + d) % 4 ∧ p1 < 16 :=
  ⟨j + d, (j + d) % 4, p4 + (j + d) % 4, wrapA j d _ rfl (by omega), by rw [Int.tmod_eq_emod_of_nonneg (by omega)]; omega, wrapA p4 _ _ rfl (by omega), rfl, by omega⟩
theorem mix_three (a b c d : UInt8) : ((dbl a ^^^ (dbl b ^^^ b)) ^^^ c) ^^^ d = mixd a b c d := by
  rw [mixd, dbl_xor, UInt8.xor_assoc (dbl a) (dbl b) b]

/-- The state behind n rounds, as the document's answer has it. -/
def stOf (K l : List UInt8) (n : Nat) : List UInt8 := if n ≤ 9 then roundsOf K (addKeyOf K l 0) n else blockOf K l
theorem stOf_length (K l : List UInt8) (n : Nat) : (stOf K l n).length = 16 := by
  rw [stOf]
  split
  · exact roundsOf_length _ _ (addKeyOf_length _ _ _) _
  · exact blockOf_length _ _
/-- A round's middle, and its end. -/
def midOf (K S : List UInt8) : List UInt8 := shiftOf (subOf K S)
theorem stOf_low (K l : List UInt8) (n : Nat) (h : n < 9) : stOf K l (n + 1) = addKeyOf K (mixOf (midOf K (stOf K l n))) (n + 1) := by
  rw [stOf, stOf, if_pos (by omega), if_pos (by omega), roundsOf]
  rfl
theorem stOf_last (K l : List UInt8) : stOf K l 10 = addKeyOf K (midOf K (stOf K l 9)) 10 := by
  rw [stOf, stOf, if_neg (by omega), if_pos (Nat.le_refl _)]
  rfl
theorem midOf_length (K S : List UInt8) : (midOf K S).length = 16 := shiftOf_length _
theorem midOf_at {K S : List UInt8} {p q : Nat} (hp : p < 16) (hq : q = (p + p % 4 * 4) % 16) {u v : UInt8} (hu : S[q]? = some u) (hv : K[u.toNat]? = some v) : (midOf K S)[p]? = some v := by
  rw [midOf, shiftOf, List.getElem?_map, List.getElem?_range hp, Option.map_some, ← hq]
  simp only [List.getD]
  rw [subOf, List.getElem?_map, hu]
  simp only [Option.map_some, Option.getD_some, List.getD, hv]
theorem addKeyOf_at {K X : List UInt8} {r p : Nat} (hp : p < 16) {x k : UInt8} (hx : X[p]? = some x) (hk : K[256 + 16 * r + p]? = some k) : (addKeyOf K X r)[p]? = some (x ^^^ k) := by
  rw [addKeyOf, List.getElem?_map, List.getElem?_range hp]
  simp only [Option.map_some, List.getD, hx, hk, Option.getD_some]

set_option maxRecDepth 20000 in
set_option maxHeartbeats 2000000 in
theorem refBlock_any (gC : Nat) (K l : List UInt8) (w : World) (hK : BB w gC 47 K) (hKl : K.length = 432) (hl : l.length = 16) :
    Calls Try.prog 12 #[.pointer (some ⟨gC, 0, none⟩), .agg (bcells l).toArray] w fun e w' => e = .returned (.agg (bcells (blockOf K l)).toArray) ∧ Below w.heap.size w w' := by
  have hgC := hK.lt
  have HK := Lib.hid hK
  have HKL := Lib.hid hKl
  have HL := Lib.hid hl
  have HZ := Lib.hid (show (List.replicate 16 (0 : UInt8)).length = 16 from rfl)
  have h0 : BB (((w.alloc (.cells (bcells l).toArray 22)).alloc (.cells (bcells (List.replicate 16 0)).toArray 22)).alloc (.cells (bcells (List.replicate 16 0)).toArray 22)) (w.heap.size + 2) 22 (List.replicate 16 0) := heap_alloc_at2 _ _ _ _
  have h1 : BB (((w.alloc (.cells (bcells l).toArray 22)).alloc (.cells (bcells (List.replicate 16 0)).toArray 22)).alloc (.cells (bcells (List.replicate 16 0)).toArray 22)) (w.heap.size + 1) 22 (List.replicate 16 0) := BB.alloc (heap_alloc2_new _ _ _) _
  have hb0 := (BB.new w 22 l).alloc (.cells (bcells (List.replicate 16 0)).toArray 22)
  have H0 := Lib.hid h0
  have H1 := Lib.hid h1
  have HI := Lib.hid hb0
  have HBE := Lib.hid ((((Below.refl w.heap.size w).alloc (Nat.le_refl _) (.cells (bcells l).toArray 22)).alloc (by simp) (.cells (bcells (List.replicate 16 0)).toArray 22)).alloc (by simp; omega) (.cells (bcells (List.replicate 16 0)).toArray 22))
  clear hK hKl hl h0 h1 hb0
  go_enter Try.func12, Try.ntmps12
  go_wp2_with (first
    | refine wpList_loadB arr16 rfl (.tmp 3) rfl HI.out HL.out rfl ?_
    | (refine wpList_storeB arr16 rfl (.tmp 5) (.tmp 14) rfl H0.out HZ.out HL.out (by go_simp) rfl ?_; intro w1 h1 hg1; have HS1 := Lib.hid h1; have HR1 := Lib.hid (H1.out.grown hg1 (by omega)); have HB1 := Lib.hid (HBE.out.trans (below_of_grown hg1 (by omega) (by simp; omega))); clear h1 hg1))
  go_loopw [6] (fun i wr => ∃ k : Nat, i = .int .i64 k ∧ k ≤ 16 ∧ BB wr (w.heap.size + 2) 22 (mix (addKeyOf K l 0) l k) ∧ BB wr (w.heap.size + 1) 22 (List.replicate 16 0) ∧ Below w.heap.size w wr) (fun i _ => 16 - (intOf i).toNat)
  case atStart => exact ⟨0, rfl, by omega, by rw [mix_zero]; exact HS1.out, HR1.out, HB1.out⟩
  case round =>
    obtain ⟨k, rfl, hk, hB, hR, hbel⟩ := hrel
    have hll : (addKeyOf K l 0).length = l.length := by rw [addKeyOf_length, HL.out]
    by_cases hlt : k < 16
    · obtain ⟨a, ha⟩ : ∃ a, a = k / 4 := ⟨_, rfl⟩
      obtain ⟨m, hm⟩ : ∃ m, m = k % 4 := ⟨_, rfl⟩
      obtain ⟨u1, hu1⟩ : ∃ u, l[k]? = some u := ⟨_, List.getElem?_eq_getElem (by rw [HL.out]; exact hlt)⟩
      obtain ⟨u2, hu2⟩ : ∃ u, K[256 + a * 4 + m]? = some u := ⟨_, List.getElem?_eq_getElem (by rw [HKL.out]; omega)⟩
      have c1 := hB.at_ (i := k) (u := u1) (by rw [mix_get _ _ hll _ _ (Nat.le_refl _)]; exact hu1)
      have c2 := (HK.out.below hbel hgC).at_ hu2
      have f1 := hB.free k
      have hki : (k : Int) < 16 := by omega
      have ww1 : IntKind.i64.wrap ((k : Int) / 4) = (a : Int) := by rw [IntKind.wrap_i64]; omega
      have ww2 : (k : Int).tmod 4 = (m : Int) := by rw [Int.tmod_eq_emod_of_nonneg (by omega)]; omega
      have b1 : (a : Int) < 44 := by omega
      have b2 : (m : Int) < 4 := by omega
      have hx := xor_u8 u1 u2
      have hak : (addKeyOf K l 0)[k]? = some (u1 ^^^ u2) := addKeyOf_at hlt hu1 (by rw [show 256 + 16 * 0 + k = 256 + a * 4 + m by omega]; exact hu2)
      obtain ⟨z, hz⟩ : ∃ z, z = u1 ^^^ u2 := ⟨_, rfl⟩
      rw [← hz] at hx hak
      have HN := Lib.hid (fun x hx => (mix_set (addKeyOf K l 0) l hll k _ hak) ▸ hB.drew.set_ k z x hx)
      have HBEL := Lib.hid hbel
      have HR := Lib.hid hR
      clear ha hm hak hB hbel hu1 hu2 hll hR hz
      go_wp2
      go_still_tail 15, (by kernel_rfl)
      clear ww1 ww2
      change wpList _ _ _ _ _ wr.drew
      go_wp2
      go_roundw
      case rel => exact ⟨k + 1, by go_num, by omega, HN.out _ rfl, HR.out.drew.far (by simp) _, HBEL.out.drew.setCell (by simp; omega) _⟩
      case measure => simp [intOf]; omega
    · obtain rfl : k = 16 := by omega
      have hm := mix_all (addKeyOf K l 0) l (k := 16) (by rw [HL.out]; exact Nat.le_refl _) (by rw [addKeyOf_length]; exact Nat.le_refl _)
      rw [hm] at hB
      rw [show ((16 : Nat) : Int) = 16 from rfl]
      have HS2 := Lib.hid hB
      have HR2 := Lib.hid hR
      have HB2 := Lib.hid hbel
      clear hB hR hbel hm hll
      go_wp2
      obtain ⟨w2, rfl⟩ : ∃ w2 : World, w2 = wr := ⟨_, rfl⟩
      go_loopw [7] (fun i wr => ∃ n : Nat, i = .int .i64 ((n : Int) + 1) ∧ n ≤ 10 ∧ BB wr (w.heap.size + 2) 22 (stOf K l n) ∧ BB wr (w.heap.size + 1) 22 (List.replicate 16 0) ∧ Below w.heap.size w wr) (fun i _ => 12 - (intOf i).toNat)
      case atStart => exact ⟨0, rfl, by omega, HS2.out, HR2.out, HB2.out⟩
      case round =>
        obtain ⟨n, rfl, hn, hS, hR, hbel⟩ := hrel
        have hsl := stOf_length K l n
        have HSB := Lib.hid hS
        have HRB := Lib.hid hR
        have HBB := Lib.hid hbel
        have hsz := hS.lt
        clear hS hR hbel
        by_cases hlt : n < 10
        · have hni : (n : Int) < 10 := by omega
          have HN10 : Hid (n < 10) := hlt
          have HST1 := Lib.hid (fun h => stOf_low K l n h)
          have HST2 := Lib.hid (stOf_last K l)
          obtain ⟨S, hS⟩ : ∃ S, S = stOf K l n := ⟨_, rfl⟩
          obtain ⟨S', hS'⟩ : ∃ S, S = stOf K l (n + 1) := ⟨_, rfl⟩
          have hsl' := stOf_length K l (n + 1)
          rw [← hS'] at hsl'
          rw [← hS] at hsl HSB
          have HSE := Lib.hid hS
          have HSE' := Lib.hid hS'
          have HSL := Lib.hid hsl
          have HSL' := Lib.hid hsl'
          clear hS hS' hsl hsl'
          obtain ⟨wo, rfl⟩ : ∃ wo : World, wo = wr := ⟨_, rfl⟩
          go_wp2_with (refine wpList_storeB arr16 rfl (.tmp 8) (.tmp 38) rfl (BB.new wo 22 (List.replicate 16 0)) HZ.out HZ.out rfl rfl ?_; intro w3 h3 hg3; have HT3 := Lib.hid h3; have HS3 := Lib.hid ((HSB.out.alloc _).grown hg3 (by omega)); have HR3 := Lib.hid ((HRB.out.alloc _).grown hg3 (by omega)); have HB3 := Lib.hid ((HBB.out.alloc HBB.out.size _).trans (below_of_grown hg3 HBB.out.size (by have := HBB.out.size; simp; omega))); clear h3 hg3)
          go_loopw [9] (fun i wr => ∃ c : Nat, i = .int .i64 c ∧ c ≤ 4 ∧ BB wr wo.heap.size 22 (mix (midOf K S) (List.replicate 16 0) (4 * c)) ∧ BB wr (w.heap.size + 2) 22 S ∧ BB wr (w.heap.size + 1) 22 (List.replicate 16 0) ∧ Below w.heap.size w wr) (fun i _ => 4 - (intOf i).toNat)
          case atStart => exact ⟨0, rfl, by omega, by rw [Nat.mul_zero, mix_zero]; exact HT3.out, HS3.out, HR3.out, HB3.out⟩
          case round =>
            obtain ⟨c, rfl, hc, hT, hS, hR, hbel⟩ := hrel
            have HT4 := Lib.hid hT
            have HS4 := Lib.hid hS
            have HR4 := Lib.hid hR
            have HB4 := Lib.hid hbel
            clear hT hS hR hbel
            by_cases hlc : c < 4
            · have hci : (c : Int) < 4 := by omega
              go_wp2
              obtain ⟨wp, rfl⟩ : ∃ wp : World, wp = wr := ⟨_, rfl⟩
              go_loopw [10] (fun i wr => ∃ j : Nat, i = .int .i64 j ∧ j ≤ 4 ∧ BB wr wo.heap.size 22 (mix (midOf K S) (List.replicate 16 0) (4 * c + j)) ∧ BB wr (w.heap.size + 2) 22 S ∧ BB wr (w.heap.size + 1) 22 (List.replicate 16 0) ∧ Below w.heap.size w wr) (fun i _ => 4 - (intOf i).toNat)
              case atStart => exact ⟨0, rfl, by omega, HT4.out, HS4.out, HR4.out, HB4.out⟩
              case round =>
                obtain ⟨j, rfl, hj, hT, hS, hR, hbel⟩ := hrel
                by_cases hlj : j < 4
                · obtain ⟨p4, hp4⟩ : ∃ p, p = 4 * c := ⟨_, rfl⟩
                  obtain ⟨p, hp⟩ : ∃ q, q = p4 + j := ⟨_, rfl⟩
                  obtain ⟨cr, hcr⟩ : ∃ q, q = c + j := ⟨_, rfl⟩
                  obtain ⟨m, hm⟩ : ∃ q, q = cr % 4 := ⟨_, rfl⟩
                  obtain ⟨m4, hm4⟩ : ∃ q, q = 4 * m := ⟨_, rfl⟩
                  obtain ⟨q, hq⟩ : ∃ q, q = m4 + j := ⟨_, rfl⟩
                  obtain ⟨u, hu⟩ : ∃ u, S[q]? = some u := ⟨_, List.getElem?_eq_getElem (by rw [HSL.out]; omega)⟩
                  have hul := u.toNat_lt
                  obtain ⟨v, hv⟩ : ∃ u', K[u.toNat]? = some u' := ⟨_, List.getElem?_eq_getElem (by rw [HKL.out]; omega)⟩
                  have hmid := midOf_at (K := K) (S := S) (p := p) (q := q) (by omega) (by omega) hu hv
                  have hll : (midOf K S).length = (List.replicate 16 (0 : UInt8)).length := by rw [midOf_length, HZ.out]
                  rw [← hp4, ← hp] at hT
                  have c1 := hS.at_ hu
                  have c2 := (HK.out.below hbel hgC).at_ hv
                  have c3 := hT.at_ (i := p) (u := 0) (by rw [mix_get _ _ hll _ _ (Nat.le_refl _), List.getElem?_replicate, if_pos (by omega)])
                  have f3 := hT.free p
                  have HN := Lib.hid (fun x hx => (mix_set (midOf K S) (List.replicate 16 0) hll p _ hmid) ▸ hT.drew.set_ p v x hx)
                  have HPE : Hid (p + 1 = 4 * c + (j + 1)) := by unfold Hid; omega
                  have ww1 : IntKind.i64.wrap (4 * (c : Int)) = (p4 : Int) := by rw [IntKind.wrap_i64]; omega
                  have ww2 : IntKind.i64.wrap ((p4 : Int) + (j : Int)) = (p : Int) := by rw [IntKind.wrap_i64]; omega
                  have ww3 : IntKind.i64.wrap ((c : Int) + (j : Int)) = (cr : Int) := by rw [IntKind.wrap_i64]; omega
                  have ww4 : (cr : Int).tmod 4 = (m : Int) := by rw [Int.tmod_eq_emod_of_nonneg (by omega)]; omega
                  have ww5 : IntKind.i64.wrap (4 * (m : Int)) = (m4 : Int) := by rw [IntKind.wrap_i64]; omega
                  have ww6 : IntKind.i64.wrap ((m4 : Int) + (j : Int)) = (q : Int) := by rw [IntKind.wrap_i64]; omega
                  have b1 : (p : Int) < 16 := by omega
                  have b2 : (q : Int) < 16 := by omega
                  have b3 : (u.toNat : Int) < 256 := by omega
                  have hji : (j : Int) < 4 := by omega
                  have HS5 := Lib.hid hS
                  have HR5 := Lib.hid hR
                  have HB5 := Lib.hid hbel
                  clear hT hS hR hbel hu hv hmid hll hp4 hp hcr hm hm4 hq hul
                  generalize u.toNat = nu at *
                  generalize v.toNat = nv at *
                  go_wp2
                  go_still_tail 19, (by kernel_rfl)
                  clear ww1 ww2 ww3 ww4 ww5 ww6
                  change wpList _ _ _ _ _ wr.drew
                  go_wp2
                  go_roundw
                  case rel => exact ⟨j + 1, by go_num, by omega, HPE.out ▸ HN.out _ rfl, HS5.out.drew.far (by have := hsz; simp; omega) _, HR5.out.drew.far (by have := hsz; simp; omega) _, HB5.out.drew.setCell (by have := hsz; simp; omega) _⟩
                  case measure => simp [intOf]; omega
                · obtain rfl : j = 4 := by omega
                  have HT5 := Lib.hid hT
                  have HS5 := Lib.hid hS
                  have HR5 := Lib.hid hR
                  have HB5 := Lib.hid hbel
                  clear hT hS hR hbel
                  go_wp2
                  go_roundw
                  case rel => exact ⟨c + 1, by go_num, by omega, HT5.out, HS5.out, HR5.out, HB5.out⟩
                  case measure => simp [intOf]; omega
            · obtain rfl : c = 4 := by omega
              have hT := HT4.out
              rw [mix_all (midOf K S) (List.replicate 16 0) (k := 4 * 4) (by rw [HZ.out]; exact Nat.le_refl _) (by rw [midOf_length]; exact Nat.le_refl _)] at hT
              have HT5 := Lib.hid hT
              clear hT
              go_wp2
              obtain ⟨wp, rfl⟩ : ∃ wp : World, wp = wr := ⟨_, rfl⟩
              go_loopw [11] (fun i wr => ∃ c : Nat, i = .int .i64 c ∧ c ≤ 4 ∧ BB wr (w.heap.size + 2) 22 (mix S' S (4 * c)) ∧ BB wr wo.heap.size 22 (midOf K S) ∧ BB wr (w.heap.size + 1) 22 (List.replicate 16 0) ∧ Below w.heap.size w wr) (fun i _ => 4 - (intOf i).toNat)
              case atStart => exact ⟨0, rfl, by omega, by rw [Nat.mul_zero, mix_zero]; exact HS4.out, HT5.out, HR4.out, HB4.out⟩
              case round =>
                obtain ⟨c, rfl, hc, hS, hT, hR, hbel⟩ := hrel
                have HS6 := Lib.hid hS
                have HT6 := Lib.hid hT
                have HR6 := Lib.hid hR
                have HB6 := Lib.hid hbel
                clear hT hS hR hbel
                by_cases hlc : c < 4
                · have hci : (c : Int) < 4 := by omega
                  go_wp2
                  obtain ⟨wp2, rfl⟩ : ∃ wp2 : World, wp2 = wr := ⟨_, rfl⟩
                  go_loopw [12] (fun i wr => ∃ j : Nat, i = .int .i64 j ∧ j ≤ 4 ∧ BB wr (w.heap.size + 2) 22 (mix S' S (4 * c + j)) ∧ BB wr wo.heap.size 22 (midOf K S) ∧ BB wr (w.heap.size + 1) 22 (List.replicate 16 0) ∧ Below w.heap.size w wr) (fun i _ => 4 - (intOf i).toNat)
                  case atStart => exact ⟨0, rfl, by omega, HS6.out, HT6.out, HR6.out, HB6.out⟩
                  case round =>
                    obtain ⟨j, rfl, hj, hS, hT, hR, hbel⟩ := hrel
                    by_cases hlj : j < 4
                    · obtain ⟨p4, hp4⟩ : ∃ p, p = 4 * c := ⟨_, rfl⟩
                      obtain ⟨p, hp⟩ : ∃ q, q = p4 + j := ⟨_, rfl⟩
                      obtain ⟨r4, hr4⟩ : ∃ q, q = 4 * (n + 1) := ⟨_, rfl⟩
                      obtain ⟨rc, hrc⟩ : ∃ q, q = r4 + c := ⟨_, rfl⟩
                      have hml := midOf_length K S
                      have hlp : p < 16 := by omega
                      obtain ⟨x0, hx0⟩ : ∃ u, (midOf K S)[p]? = some u := ⟨_, List.getElem?_eq_getElem (by omega)⟩
                      obtain ⟨kk, hkk⟩ : ∃ u, K[256 + rc * 4 + j]? = some u := ⟨_, List.getElem?_eq_getElem (by rw [HKL.out]; omega)⟩
                      obtain ⟨so, hso⟩ : ∃ u, S[p]? = some u := ⟨_, List.getElem?_eq_getElem (by rw [HSL.out]; omega)⟩
                      have hll : S'.length = S.length := by rw [HSL'.out, HSL.out]
                      rw [← hp4, ← hp] at hS
                      have c0 := hT.at_ hx0
                      have c4 := (HK.out.below hbel hgC).at_ hkk
                      have c5 := hS.at_ (i := p) (u := so) (by rw [mix_get _ _ hll _ _ (Nat.le_refl _)]; exact hso)
                      have f5 := hS.free p
                      have HPE : Hid (p + 1 = 4 * c + (j + 1)) := by unfold Hid; omega
                      have pp1 : 4 * (c : Int) = (p4 : Int) := by omega
                      have pp2 : (p4 : Int) + (j : Int) = (p : Int) := by omega
                      have b1 : (p : Int) < 16 := by omega
                      have hji : (j : Int) < 4 := by omega
                      have pr1 : 4 * ((n : Int) + 1) = (r4 : Int) := by omega
                      have pr2 : (r4 : Int) + (c : Int) = (rc : Int) := by omega
                      have b2 : (rc : Int) < 44 := by omega
                      have hkk' : K[256 + 16 * (n + 1) + p]? = some kk := by rw [show 256 + 16 * (n + 1) + p = 256 + rc * 4 + j by omega]; exact hkk
                      have HSS := Lib.hid hS
                      have HTT := Lib.hid hT
                      have HRR := Lib.hid hR
                      have HBB' := Lib.hid hbel
                      have step : ∀ y, S'[p]? = some y → Hid (∀ (W : World), BB W (w.heap.size + 2) 22 (mix S' S p) → ∀ x : Int, x = (y.toNat : Int) → BB (W.setCell ⟨w.heap.size + 2, p, none⟩ (.int .u8 x)) (w.heap.size + 2) 22 (mix S' S (p + 1))) := by
                        intro y hy W hW x hx
                        rw [← mix_set S' S hll p y hy]
                        exact hW.set_ p y x hx
                      by_cases hn9 : n < 9
                      · have hn9i : (n : Int) < 9 := by omega
                        have hn9j : (n : Int) + 1 < 10 := by omega
                        obtain ⟨j1, m1, p1, ww2, wt1, ww5, hp1, hl1⟩ := ixN p4 j 1 (by omega) hlj (by omega)
                        replace ww2 : IntKind.i64.wrap ((j : Int) + 1) = (j1 : Int) := ww2
                        obtain ⟨j2, m2, p2, ww3, wt2, ww6, hp2, hl2⟩ := ixN p4 j 2 (by omega) hlj (by omega)
                        replace ww3 : IntKind.i64.wrap ((j : Int) + 2) = (j2 : Int) := ww3
                        obtain ⟨j3, m3, p3, ww4, wt3, ww7, hp3, hl3⟩ := ixN p4 j 3 (by omega) hlj (by omega)
                        replace ww4 : IntKind.i64.wrap ((j : Int) + 3) = (j3 : Int) := ww4
                        obtain ⟨x1, hx1⟩ : ∃ u, (midOf K S)[p1]? = some u := ⟨_, List.getElem?_eq_getElem (by rw [hml]; exact hl1)⟩
                        obtain ⟨x2, hx2⟩ : ∃ u, (midOf K S)[p2]? = some u := ⟨_, List.getElem?_eq_getElem (by rw [hml]; exact hl2)⟩
                        obtain ⟨x3, hx3⟩ : ∃ u, (midOf K S)[p3]? = some u := ⟨_, List.getElem?_eq_getElem (by rw [hml]; exact hl3)⟩
                        have c1 := hT.at_ hx1
                        have c2 := hT.at_ hx2
                        have c3 := hT.at_ hx3
                        have ww0 := wrap4 c p4 hp4 (by omega)
                        have wp4 := wrapN p4 (by omega)
                        have ww1 := wrapA p4 j p hp (by omega)
                        have wp0 := wrapN p (by omega)
                        have bb1 : (p1 : Int) < 16 := Int.ofNat_lt.2 hl1
                        have bb2 : (p2 : Int) < 16 := Int.ofNat_lt.2 hl2
                        have bb3 : (p3 : Int) < 16 := Int.ofNat_lt.2 hl3
                        have hM : (mixOf (midOf K S))[p]? = some (mixd x0 x1 x2 x3) := by
                          have e : p = p4 + j := hp
                          rw [e]
                          refine mixOf_at (by rw [hp4]; exact Nat.mul_mod_right 4 c) (by rw [← hp]; exact hlp) hlj ?_ ?_ ?_ ?_
                          · rw [Nat.mod_eq_of_lt hlj, ← hp]; exact hx0
                          · rw [← hp1]; exact hx1
                          · rw [← hp2]; exact hx2
                          · rw [← hp3]; exact hx3
                        have hAK := addKeyOf_at (r := n + 1) hlp hM hkk'
                        rw [show addKeyOf K (mixOf (midOf K S)) (n + 1) = S' by rw [HSE'.out, HSE.out, HST1.out hn9]] at hAK
                        have HNX := step _ hAK
                        obtain ⟨y1, hy1⟩ : ∃ y, y = dbl x0 ^^^ (dbl x1 ^^^ x1) := ⟨_, rfl⟩
                        obtain ⟨y2, hy2⟩ : ∃ y, y = y1 ^^^ x2 := ⟨_, rfl⟩
                        obtain ⟨y3, hy3⟩ : ∃ y, y = y2 ^^^ x3 := ⟨_, rfl⟩
                        have hy : mixd x0 x1 x2 x3 = y3 := by rw [hy3, hy2, hy1, mix_three]
                        rw [hy] at HNX
                        obtain ⟨z, hz⟩ : ∃ y, y = y3 ^^^ kk := ⟨_, rfl⟩
                        rw [← hz] at HNX
                        obtain ⟨d1, hd1⟩ : ∃ y, y = dbl x1 ^^^ x1 := ⟨_, rfl⟩
                        obtain ⟨d0, hd0⟩ : ∃ y, y = dbl x0 := ⟨_, rfl⟩
                        rw [← hd0, ← hd1] at hy1
                        have xa := xor_u8 d0 d1
                        rw [← hy1] at xa
                        have xb := xor_u8 y1 x2
                        rw [← hy2] at xb
                        have xc := xor_u8 y2 x3
                        rw [← hy3] at xc
                        have xv := xor_u8 y3 kk
                        rw [← hz] at xv
                        have ht2 := fun W => times2_same x0 W
                        have ht3 := fun W => times3_same x1 W
                        rw [← hd0] at ht2
                        rw [← hd1] at ht3
                        have HT2 := Lib.hid ht2
                        have HT3' := Lib.hid ht3
                        clear ht2 ht3 hy1 hy2 hy3 hz hd0 hd1 hy hM hAK step hx0 hx1 hx2 hx3 hkk hkk' hso hll hS hT hR hbel hp1 hp2 hp3 hl1 hl2 hl3 hp hp4 hrc hr4 hml hlp
                        go_wp2
                        go_quiet ((first | (go_at_call 22; with_reducible exact Calls.quiet_of_same (HT2.out _)) | (go_at_call 22; with_reducible exact Calls.quiet_of_same (HT3'.out _))))
                        clear ww0 wp4 ww1 wp0 ww2 ww3 ww4 wt1 wt2 wt3 ww5 ww6 ww7 c1 c2 c3 c0 xa xb xc bb1 bb2 bb3
                        go_wp2
                        clear xv pp1 pp2 pr1 pr2
                        go_roundw
                        case rel => exact ⟨j + 1, by go_num, by omega, HPE.out ▸ HNX.out _ (HSS.out.drewN _) _ rfl, (HTT.out.drewN _).far (by have := hsz; simp; omega) _, (HRR.out.drewN _).far (by simp) _, (below_drewN HBB'.out _).setCell (by simp; omega) _⟩
                        case measure => simp [intOf]; omega
                      · have hne : n = 9 := by have := HN10.out; omega
                        have hn9j : ¬ (n : Int) + 1 < 10 := by omega
                        have hAK := addKeyOf_at (r := n + 1) hlp hx0 hkk'
                        rw [show addKeyOf K (midOf K S) (n + 1) = S' by rw [HSE'.out, HSE.out, hne]; exact HST2.out.symm] at hAK
                        have HNX := step _ hAK
                        obtain ⟨z, hz⟩ : ∃ y, y = x0 ^^^ kk := ⟨_, rfl⟩
                        rw [← hz] at HNX
                        have xv := xor_u8 x0 kk
                        rw [← hz] at xv
                        clear hne hz hAK step hx0 hkk hkk' hso hll hS hT hR hbel hp hp4 hrc hr4 hml hlp
                        go_wp2
                        clear xv pp1 pp2 pr1 pr2
                        go_roundw
                        case rel => exact ⟨j + 1, by go_num, by omega, HPE.out ▸ HNX.out _ HSS.out _ rfl, HTT.out.far (by have := hsz; simp; omega) _, HRR.out.far (by simp) _, HBB'.out.setCell (by simp; omega) _⟩
                        case measure => simp [intOf]; omega
                    · obtain rfl : j = 4 := by omega
                      have HT7 := Lib.hid hT
                      have HS7 := Lib.hid hS
                      have HR7 := Lib.hid hR
                      have HB7 := Lib.hid hbel
                      clear hT hS hR hbel
                      go_wp2
                      go_roundw
                      case rel => exact ⟨c + 1, by go_num, by omega, HS7.out, HT7.out, HR7.out, HB7.out⟩
                      case measure => simp [intOf]; omega
                · obtain rfl : c = 4 := by omega
                  have hS := HS6.out
                  rw [mix_all S' S (k := 4 * 4) (by rw [HSL.out]; exact Nat.le_refl _) (by rw [HSL'.out]; exact Nat.le_refl _), HSE'.out] at hS
                  have HS7 := Lib.hid hS
                  clear hS
                  go_wp2
                  go_roundw
                  case rel => exact ⟨n + 1, by go_num, by omega, HS7.out, HR6.out, HB6.out⟩
                  case measure => simp [intOf]; omega
        · obtain rfl : n = 10 := by omega
          have hz10 : stOf K l 10 = blockOf K l := by rw [stOf, if_neg (by omega)]
          have hS := HSB.out
          rw [hz10] at hS
          have HS8 := Lib.hid hS
          have HBL := Lib.hid (blockOf_length K l)
          clear hS hz10 hsl
          go_wp2_with (first
            | refine wpList_loadB arr16 rfl (.tmp 5) rfl HS8.out HBL.out rfl ?_
            | (refine wpList_storeB arr16 rfl (.tmp 4) (.tmp 135) rfl HRB.out HZ.out HBL.out rfl rfl ?_; intro w9 h9 hg9))
          exact bodyPost_ret (results_B arr16 rfl _ h9 HBL.out rfl) rfl ⟨rfl, HBB.out.trans (below_of_grown hg9 (Nat.le_succ _) HBB.out.size)⟩
end Go.Proofs.Ytbpkaaajcimcgab
