/- The walk of New of the document's answer: the rounds. -/
import Derived.Test.YtbpkaaajcimcgabRNw
import Derived.StillTailTactics
namespace Go.Proofs.Ytbpkaaajcimcgab
open Go.RowKit

set_option maxRecDepth 20000 in
set_option maxHeartbeats 4000000 in
theorem refNew_any (key : List UInt8) (hk : key.length = 16) (w : World) :
    Calls Try.prog 11 #[.agg (bcells key).toArray] w fun e w' => ∃ g, e = .returned (.pointer (some ⟨g, 0, none⟩)) ∧ BB w' g 47 (keyed key) ∧ Below w.heap.size w w' ∧ w.heap.size ≤ g := by
  have HB0 := Lib.hid (BB.new w 23 key)
  have HKL := Lib.hid hk
  have hbx := fun W => boxes_any W
  rw [boxT_eq] at hbx
  have HBX := Lib.hid hbx
  clear hk hbx
  go_enter Try.func11, Try.ntmps11
  go_wp2_with (first
    | (go_at_call 21; refine (HBX.out _).mono ?_; rintro e w1 ⟨rfl, hb1⟩; have HB1 := Lib.hid (((Below.refl _ _).alloc (Nat.le_refl _) _).trans (hb1.mono (by simp))); have HK1 := Lib.hid (HB0.out.below hb1 (by simp)); have hs1 : w.heap.size + 1 ≤ w1.heap.size := (by have := hb1.size; simp at this; omega); clear hb1)
    | refine wpList_buildR rfl (.tmp 8) rfl rfl ?_)
  have hc0 : BB (w1.alloc (.cells (bcells (subT ++ zeros 176)).toArray 47)) w1.heap.size 47 (confOf key 0) := by
    rw [confOf, if_pos (by omega), keyTo_zero]
    exact BB.new w1 _ _
  have HC0 := Lib.hid hc0
  have HR0 := Lib.hid (show rconOf key 0 = 1 by rfl)
  have HGW : Hid (w.heap.size < w1.heap.size) := hs1
  clear hc0
  go_loopw [4, 5] (fun r i wr => ∃ i' : Nat, i = .int .i64 i' ∧ i' ≤ 44 ∧ r = .int .u8 ((rconOf key i').toNat : Int) ∧ BB wr w1.heap.size 47 (confOf key i') ∧ BB wr w.heap.size 23 key ∧ Below w.heap.size w wr) (fun _ i _ => 44 - (intOf i).toNat)
  case atStart => exact ⟨0, rfl, by omega, by rw [HR0.out]; rfl, HC0.out, HK1.out.alloc _, HB1.out.alloc HB1.out.size _⟩
  case round =>
    obtain ⟨i, rfl, hi, rfl, hC, hKB, hbel⟩ := hrel
    have HC := Lib.hid hC
    have HK2 := Lib.hid hKB
    have HB2 := Lib.hid hbel
    clear hC hKB hbel
    by_cases hlt : i < 44
    · have hii : (i : Int) < 44 := by omega
      by_cases hi4 : i < 4
      · have hi4i : (i : Int) < 4 := by omega
        have HCE := Lib.hid (show confOf key i = keyTo key (4 * i) by rw [confOf, if_pos hi4])
        have HCN := Lib.hid (confOf_low key HKL.out i hi4)
        have HRE := Lib.hid (show rconOf key i = 1 by rw [rconOf, if_pos hi4])
        have HRN := Lib.hid (rconOf_low key i hi4)
        have hge : ¬ (4 : Int) ≤ (i : Int) := by omega
        have hged : decide ((4 : Int) ≤ (i : Int)) = false := by simpa using hge
        obtain ⟨c, hc⟩ : ∃ c, c = rconOf key i := ⟨_, rfl⟩
        rw [← hc]
        have HCC := Lib.hid hc
        clear hc
        go_wp2
        obtain ⟨wo, rfl⟩ : ∃ wo : World, wo = wr := ⟨_, rfl⟩
        go_loopw [6] (fun j wr => ∃ k : Nat, j = .int .i64 k ∧ k ≤ 4 ∧ BB wr w1.heap.size 47 (keyTo key (4 * i + k)) ∧ BB wr w.heap.size 23 key ∧ Below w.heap.size w wr) (fun j _ => 4 - (intOf j).toNat)
        case atStart => exact ⟨0, rfl, by omega, by rw [Nat.add_zero, ← HCE.out]; exact HC.out, HK2.out, HB2.out⟩
        case round =>
          obtain ⟨k, rfl, hk, hC, hKB, hbel⟩ := hrel
          by_cases hlk : k < 4
          · have hki : (k : Int) < 4 := by omega
            obtain ⟨a, ha⟩ : ∃ a, a = 4 * i := ⟨_, rfl⟩
            obtain ⟨q, hq⟩ : ∃ q, q = a + k := ⟨_, rfl⟩
            obtain ⟨u, hu⟩ : ∃ u, key[q]? = some u := ⟨_, List.getElem?_eq_getElem (by rw [HKL.out]; omega)⟩
            obtain ⟨v, hv⟩ : ∃ v, (keyTo key q)[256 + i * 4 + k]? = some v := ⟨_, List.getElem?_eq_getElem (by rw [keyTo_length key HKL.out]; omega)⟩
            rw [← ha, ← hq] at hC
            have c1 := hKB.at_ hu
            have c2 := hC.at_ hv
            have f2 := hC.free (256 + i * 4 + k)
            have w1' : IntKind.i64.wrap (4 * (i : Int)) = (a : Int) := by rw [IntKind.wrap_i64]; omega
            have w2' : IntKind.i64.wrap ((a : Int) + (k : Int)) = (q : Int) := by rw [IntKind.wrap_i64]; omega
            have b1 : (q : Int) < 16 := by omega
            have hs : (keyTo key q).set (256 + i * 4 + k) u = keyTo key (4 * i + (k + 1)) := by
              rw [show 256 + i * 4 + k = 256 + q by omega, show 4 * i + (k + 1) = q + 1 by omega]
              exact keyTo_set key HKL.out q u hu
            have HN := Lib.hid (fun x hx => hs ▸ hC.drew.set_ (256 + i * 4 + k) u x hx)
            have HKB := Lib.hid hKB
            have HB := Lib.hid hbel
            clear hs hC hKB hbel hu hv ha hq
            generalize u.toNat = n1 at *
            go_wp2
            go_still_tail 13, (by kernel_rfl)
            clear w1' w2'
            change wpList _ _ _ _ _ wr.drew
            go_wp2
            go_roundw
            case rel => exact ⟨k + 1, by go_num, by omega, HN.out _ rfl, HKB.out.drew.far (by have := HGW.out; simp; omega) _, HB.out.drew.setCell (by have := HGW.out; simp; omega) _⟩
            case measure => simp [intOf]; omega
          · obtain rfl : k = 4 := by omega
            rw [← HCN.out] at hC
            have HC9 := Lib.hid hC
            have HKB := Lib.hid hKB
            have HB := Lib.hid hbel
            clear hC hKB hbel
            go_wp2
            go_roundw
            case rel => exact ⟨i + 1, by go_num, by omega, by rw [HRN.out, HCC.out, HRE.out], HC9.out, HKB.out, HB.out⟩
            case measure => simp [intOf]; omega
      · obtain ⟨hCN, hRN⟩ := confOf_high key i (by omega)
        have hl := confOf_length key HKL.out i hi
        obtain ⟨c, hc⟩ : ∃ c, c = rconOf key i := ⟨_, rfl⟩
        obtain ⟨K, hK⟩ : ∃ K, K = confOf key i := ⟨_, rfl⟩
        rw [← hc]
        rw [← hK, ← hc] at hCN
        rw [← hc] at hRN
        rw [← hK] at hl HC
        have HCN := Lib.hid hCN
        have HRN := Lib.hid hRN
        have HL0 := Lib.hid hl
        have hpl : 256 + 4 * i + (nextWord K c i).length ≤ K.length := by rw [nextWord_length]; omega
        have HPL := Lib.hid hpl
        clear hc hK hCN hRN hl hpl
        have hi4i : ¬ (i : Int) < 4 := by omega
        have hge : (4 : Int) ≤ (i : Int) := by omega
        go_wp2
        obtain ⟨wo, rfl⟩ : ∃ wo : World, wo = wr := ⟨_, rfl⟩
        go_loopw [6] (fun j wr => ∃ k : Nat, j = .int .i64 k ∧ k ≤ 4 ∧ BB wr w1.heap.size 47 (patch K (256 + 4 * i) ((nextWord K c i).take k)) ∧ BB wr w.heap.size 23 key ∧ Below w.heap.size w wr) (fun j _ => 4 - (intOf j).toNat)
        case atStart => exact ⟨0, rfl, by omega, by rw [List.take_zero, patch_nil]; exact HC.out, HK2.out, HB2.out⟩
        case round =>
          obtain ⟨k, rfl, hk, hL, hKB, hbel⟩ := hrel
          have HKB := Lib.hid hKB
          have HB := Lib.hid hbel
          clear hKB hbel
          by_cases hlk : k < 4
          · have hki : (k : Int) < 4 := by omega
            have hlen := HL0.out
            obtain ⟨q1, hq1⟩ : ∃ q, q = i - 1 := ⟨_, rfl⟩
            obtain ⟨q4, hq4⟩ : ∃ q, q = i - 4 := ⟨_, rfl⟩
            obtain ⟨k1, hk1⟩ : ∃ q, q = k + 1 := ⟨_, rfl⟩
            obtain ⟨m, hm⟩ : ∃ q, q = k1 % 4 := ⟨_, rfl⟩
            have low := fun j (hj : j < 256 + 4 * i) => patch_low K (256 + 4 * i) ((nextWord K c i).take k) (by omega) j hj
            obtain ⟨u1, hu1⟩ : ∃ u, K[256 + q1 * 4 + k]? = some u := ⟨_, List.getElem?_eq_getElem (by omega)⟩
            obtain ⟨u4, hu4⟩ : ∃ u, K[256 + q4 * 4 + k]? = some u := ⟨_, List.getElem?_eq_getElem (by omega)⟩
            obtain ⟨ur, hur⟩ : ∃ u, K[256 + q1 * 4 + m]? = some u := ⟨_, List.getElem?_eq_getElem (by omega)⟩
            have hurl := ur.toNat_lt
            obtain ⟨vb, hvb⟩ : ∃ u, K[ur.toNat]? = some u := ⟨_, List.getElem?_eq_getElem (by omega)⟩
            obtain ⟨us, hus⟩ := patch_at K (256 + 4 * i) k (nextWord K c i) (by rw [nextWord_length]; exact hlk) HPL.out
            have c1 := hL.at_ ((low _ (by omega)).trans hu1)
            have c4 := hL.at_ ((low _ (by omega)).trans hu4)
            have cr := hL.at_ ((low _ (by omega)).trans hur)
            have cb := hL.at_ ((low _ (by omega)).trans hvb)
            have cs := hL.at_ hus
            have fs := hL.free (256 + 4 * i + k)
            rw [Nat.mul_comm 4 i] at cs fs
            have v1 : (i : Int) - 1 = (q1 : Int) := by omega
            have ww1 : IntKind.i64.wrap ((i : Int) - 1) = (q1 : Int) := by rw [IntKind.wrap_i64]; omega
            have ww2 : IntKind.i64.wrap ((i : Int) - 4) = (q4 : Int) := by rw [IntKind.wrap_i64]; omega
            have ww3 : IntKind.i64.wrap ((k : Int) + 1) = (k1 : Int) := by rw [IntKind.wrap_i64]; omega
            have ww4 : (k1 : Int).tmod 4 = (m : Int) := by rw [Int.tmod_eq_emod_of_nonneg (by omega)]; omega
            have b1 : (q1 : Int) < 44 := by omega
            have b4 : (q4 : Int) < 44 := by omega
            have bm : (m : Int) < 4 := by omega
            have bu : (ur.toNat : Int) < 256 := by omega
            have HL := Lib.hid hL
            have e1 : 256 + 4 * (i - 1) + k = 256 + q1 * 4 + k := by omega
            have e2 : 256 + 4 * (i - 1) + (k + 1) % 4 = 256 + q1 * 4 + m := by omega
            have e4 : 256 + 4 * (i - 4) + k = 256 + q4 * 4 + k := by omega
            have step : ∀ t, (turned K c i)[k]? = some t → Hid (∀ (W : World), BB W w1.heap.size 47 (patch K (256 + 4 * i) ((nextWord K c i).take k)) → ∀ x : Int, x = ((u4 ^^^ t).toNat : Int) → BB (W.setCell ⟨w1.heap.size, 256 + i * 4 + k, none⟩ (.int .u8 x)) w1.heap.size 47 (patch K (256 + 4 * i) ((nextWord K c i).take (k + 1)))) := by
              intro t ht W hW x hx
              have hn := nextWord_get K c i k hlk ht (by rw [e4]; exact hu4)
              have := hW.set_ (256 + 4 * i + k) (u4 ^^^ t) x hx
              rw [patch_set K (256 + 4 * i) k (nextWord K c i) _ hn HPL.out, Nat.mul_comm 4 i] at this
              rw [Nat.mul_comm 4 i]
              exact this
            by_cases h0 : i % 4 = 0
            · have h0i : (i : Int) % 4 = 0 := by omega
              have hg := turned_get K c i k hlk h0 (by rw [e2]; exact hur) hvb
              by_cases hk0 : k = 0
              · rw [if_pos hk0] at hg
                have HN := step _ hg
                have hx1 := xor_u8 vb c
                have hx2 := xor_u8 u4 (vb ^^^ c)
                obtain ⟨t, ht⟩ : ∃ t, t = vb ^^^ c := ⟨_, rfl⟩
                rw [← ht] at hx1 hx2 HN
                obtain ⟨z, hz⟩ : ∃ z, z = u4 ^^^ t := ⟨_, rfl⟩
                rw [← hz] at hx2 HN
                have hk0i : ((k : Int) == 0) = true := by rw [hk0]; rfl
                clear step hg hL hu1 hu4 hur hvb hus ht hz low h0 e1 e2 e4 hq1 hq4 hk1 hm hk0
                generalize ur.toNat = nr at *
                go_wp2
                go_quiet (fail)
                have HLz := Lib.hid (HL.out.drewN nq)
                have HKz := Lib.hid (HKB.out.drewN nq)
                have HBz := Lib.hid (below_drewN HB.out nq)
                change World.cell? (wr.drewN nq) _ = _ at c4
                change World.cell? (wr.drewN nq) _ = _ at cs
                change World.frozen? (wr.drewN nq) _ = _ at fs
                generalize wr.drewN nq = wz at *
                go_wp2
                go_still_tail 18, (by kernel_rfl)
                clear ww1 ww2 ww3 ww4
                change wpList _ _ _ _ _ (World.drew _)
                go_wp2
                go_roundw
                case rel => exact ⟨k + 1, by go_num, by omega, HN.out _ (HLz.out.drew) _ rfl, (HKz.out.drew).far (by have := HGW.out; simp; omega) _, (HBz.out.drew).setCell (by have := HGW.out; simp; omega) _⟩
                case measure => simp [intOf]; omega
              · rw [if_neg hk0] at hg
                have HN := step _ hg
                have hx2 := xor_u8 u4 vb
                obtain ⟨z, hz⟩ : ∃ z, z = u4 ^^^ vb := ⟨_, rfl⟩
                rw [← hz] at hx2 HN
                have hk0i : ((k : Int) == 0) = false := by rw [beq_eq_false_iff_ne]; omega
                clear step hg hL hu1 hu4 hur hvb hus hz low h0 e1 e2 e4 hq1 hq4 hk1 hm hk0
                generalize ur.toNat = nr at *
                go_wp2
                go_quiet (fail)
                have HLz := Lib.hid (HL.out.drewN nq)
                have HKz := Lib.hid (HKB.out.drewN nq)
                have HBz := Lib.hid (below_drewN HB.out nq)
                change World.cell? (wr.drewN nq) _ = _ at c4
                change World.cell? (wr.drewN nq) _ = _ at cs
                change World.frozen? (wr.drewN nq) _ = _ at fs
                generalize wr.drewN nq = wz at *
                go_wp2
                go_still_tail 18, (by kernel_rfl)
                clear ww1 ww2 ww3 ww4
                change wpList _ _ _ _ _ (World.drew _)
                go_wp2
                go_roundw
                case rel => exact ⟨k + 1, by go_num, by omega, HN.out _ (HLz.out.drew) _ rfl, (HKz.out.drew).far (by have := HGW.out; simp; omega) _, (HBz.out.drew).setCell (by have := HGW.out; simp; omega) _⟩
                case measure => simp [intOf]; omega
            · have h0i : ((i : Int) % 4 == 0) = false := by rw [beq_eq_false_iff_ne]; omega
              have hg := turned_get' K c i k hlk h0
              rw [e1, hu1] at hg
              have HN := step _ hg
              have hx2 := xor_u8 u4 u1
              obtain ⟨z, hz⟩ : ∃ z, z = u4 ^^^ u1 := ⟨_, rfl⟩
              rw [← hz] at hx2 HN
              clear step hg hL hu1 hu4 hur hvb hus hz low h0 e1 e2 e4 hq1 hq4 hk1 hm
              generalize ur.toNat = nr at *
              go_wp2
              go_still_tail 18, (by kernel_rfl)
              clear ww1 ww2 ww3 ww4
              change wpList _ _ _ _ _ (World.drew _)
              go_wp2
              go_roundw
              case rel => exact ⟨k + 1, by go_num, by omega, HN.out _ (HL.out.drew) _ rfl, (HKB.out.drew).far (by have := HGW.out; simp; omega) _, (HB.out.drew).setCell (by have := HGW.out; simp; omega) _⟩
              case measure => simp [intOf]; omega
          · obtain rfl : k = 4 := by omega
            rw [List.take_of_length_le (by rw [nextWord_length]; exact Nat.le_refl _), ← HCN.out] at hL
            have HC9 := Lib.hid hL
            clear hL
            by_cases h0 : i % 4 = 0
            · have h0i : (i : Int) % 4 = 0 := by omega
              have HRN2 := Lib.hid (show rconOf key (i + 1) = dbl c by rw [HRN.out, if_pos h0])
              have ht : ∀ W, Calls Try.prog 22 #[.int .u8 (c.toNat : Int), .int .u8 2] W fun e w' => e = .returned (.int .u8 ((dbl c).toNat : Int)) ∧ W = w' := by
                intro W
                have := times_any c 2 W
                rw [tms_two] at this
                exact this
              have HT := Lib.hid ht
              clear h0 ht
              go_wp2_with (go_at_call 22; refine (HT.out _).mono ?_; rintro e w9 ⟨rfl, rfl⟩)
              go_roundw
              case rel => exact ⟨i + 1, by go_num, by omega, by rw [HRN2.out], HC9.out, HKB.out, HB.out⟩
              case measure => simp [intOf]; omega
            · have h0i : ((i : Int) % 4 == 0) = false := by rw [beq_eq_false_iff_ne]; omega
              have HRN2 := Lib.hid (show rconOf key (i + 1) = c by rw [HRN.out, if_neg h0])
              clear h0
              go_wp2
              go_roundw
              case rel => exact ⟨i + 1, by go_num, by omega, by rw [HRN2.out], HC9.out, HKB.out, HB.out⟩
              case measure => simp [intOf]; omega
    · obtain rfl : i = 44 := by omega
      have hs := HB1.out.size
      go_wp2
      go_ret
      exact ⟨_, rfl, HC.out, HB2.out, hs⟩
end Go.Proofs.Ytbpkaaajcimcgab
