/- The walk of ShellWords. -/
import Derived.Test.YtlkchajkhplapaaGreatDoorSko
import Derived.Test.YtlkchajkhplapaaGreatDoorTsl
namespace Go.Proofs.YtlkchajkhplapaaGreatDoor
open Go.RowKit Go.Maps Go.WideMaps

/-- A row of words is there. -/
def WA (w : World) (A : Option Addr) (ws : List (List UInt8)) (cap : Nat) : Prop := SR w w.heap.size A 1 (ws.map fun x => [kS x]) cap
theorem WA.made {w w' : World} {A : Option Addr} {ws : List (List UInt8)} {cap : Nat} (h : WA w A ws cap) (hg : w.grownBy w' none) : WA w' A ws cap := by
  obtain ⟨h1, h2, h3⟩ := SR.made h hg (Nat.le_refl _)
  exact ⟨h1, h2, h3.imp id fun ⟨a, ha, hb, hc⟩ => ⟨a, ha, fun hp => ⟨(hb hp).1, Nat.lt_of_lt_of_le (hb hp).2 hg.size⟩, hc⟩⟩
theorem WA.at_ {w : World} {A : Option Addr} {ws : List (List UInt8)} {cap : Nat} (h : WA w A ws cap) {k : Nat} (hk : k < ws.length) : ∃ b off, A = some ⟨b, off, none⟩ ∧ ∀ wx, w.grownBy wx none → wx.cell? ⟨b, off + k, none⟩ = some (.string ⟨ws[k].toArray⟩) := by
  obtain ⟨b, off, rfl, hb, hc⟩ := SR.elem h (k := k) (by rw [List.length_map]; exact hk)
  refine ⟨b, off, rfl, fun wx hx => ?_⟩
  have h4 := hc 0 (kS ws[k]) (by rw [List.getElem_map]; rfl)
  rw [Nat.one_mul, Nat.add_zero] at h4
  exact keepCell hx h4
set_option maxRecDepth 20000 in
set_option maxHeartbeats 8000000 in
theorem walk_ShellWords (w : World) (htab : TI w) (s : ByteArray) (m : Int) : Calls Tryz.prog 4 #[.string s, .int .i64 m] w fun e w' => e = .returned (.bool true) ∧ Below w.heap.size w w' := by
  obtain ⟨k, hk⟩ : ∃ k, s.size = k := ⟨_, rfl⟩
  obtain ⟨q, hq, hq3⟩ : ∃ q : Nat, bits .and .i64 m 3 = (q : Int) ∧ q ≤ 3 := by
    obtain ⟨q, hq, hb⟩ := and_low m 2 (by decide)
    exact ⟨q, hb, by omega⟩
  have SP := Lib.hid (shspeaks_any w htab)
  clear htab
  by_cases h500 : 500 < k
  · have h500i : (500 : Int) < (k : Int) := by omega
    clear hq
    go_enter Tryz.func4, Tryz.ntmps4
    go_wp2_with (go_at_call 30; refine SP.out.mono ?_; rintro e w0 ⟨rfl, g0⟩; have G0 := Lib.hid g0; clear g0)
    go_ret
    exact ⟨rfl, below_of_none G0.out⟩
  have h500i : ¬ (500 : Int) < (k : Int) := by omega
  obtain ⟨l, hl⟩ : ∃ l, s.data.toList = l := ⟨_, rfl⟩
  have hln : l.length ≤ 500 := by have : l.length = s.size := by rw [← hl]; rfl
                                  omega
  obtain ⟨ws, hws⟩ : ∃ ws, wds (pieces1 32 l) = ws := ⟨_, rfl⟩
  obtain ⟨n, hn⟩ : ∃ n, ws.length = n := ⟨_, rfl⟩
  have W1 := Lib.hid (fun (W : World) => words_any W s l hl (by omega))
  have W2 := Lib.hid (fun (W : World) => rwords_any W s l hl (by omega))
  have hwl := words_le l
  rw [hws] at W1 W2 hwl
  have hwide := wide_len 32 (q + 1) l
  have hback := wds_wide 32 (q + 1) (by omega) ws (fun x hx => by rw [← hws] at hx; exact ⟨(wds_mem hx).1, (wds_mem hx).2.1⟩)
  rw [hws] at hwide
  have hwl2 : (wideL 32 (q + 1) ws).length ≤ 3000 := by
    have h1 : (l.length + 1) * (q + 1) ≤ 501 * 4 := Nat.mul_le_mul (by omega) (by omega)
    omega
  have HTK : ∀ i, i ≤ n → (wideL 32 (q + 1) (ws.take i)).length ≤ 3000 := fun i _ => by
    have h1 : wideL 32 (q + 1) ws = wideL 32 (q + 1) (ws.take i) ++ wideL 32 (q + 1) (ws.drop i) := by
      unfold wideL
      rw [← List.flatten_append, ← List.map_append, List.take_append_drop]
    have := congrArg List.length h1
    rw [List.length_append] at this
    omega
  have HK := Lib.hid HTK
  have W3 := Lib.hid (fun (W : World) (t : ByteArray) (ht : t.data.toList = wideL 32 (q + 1) ws) => words_any W t _ ht (by omega))
  rw [hback] at W3
  have HN := Lib.hid hn
  have hnl : n ≤ 501 := by rw [← hn]; omega
  have HQ3 := Lib.hid hq3
  have HNL := Lib.hid hnl
  have hx1 : ∀ x ∈ ws, x.length ≤ 500 := fun x hx => by
    rw [← hws] at hx
    have := (wds_mem hx).2.2
    omega
  have HX1 := Lib.hid hx1
  have TK0 := Lib.hid True.intro
  clear h500 hl hln hws hn hwl hwide hback hwl2 HTK hx1 hq3
  go_enter Tryz.func4, Tryz.ntmps4
  go_wp2_with (first
    | (go_at_call 30; refine SP.out.mono ?_; rintro e w0 ⟨rfl, g0⟩; have G0 := Lib.hid g0; clear g0)
    | (have hx := TK0; clear hx TK0; go_at_call 31
       refine (W1.out _).mono ?_
       rintro e w1 ⟨v, rfl, hr, g1⟩
       obtain ⟨A1, c1, rfl, hsr, -⟩ := hr.shape
       rw [List.length_map, HN.out]
       have HA := Lib.hid (show WA w1 A1 ws c1 from hsr)
       have G1 := Lib.hid (grown_trans' G0.out g1)
       clear hr hsr g1)
    | (go_at_call 32
       refine (W2.out _).mono ?_
       rintro e w2 ⟨v, rfl, hr, g2⟩
       obtain ⟨A2, c2, rfl, hsr, -⟩ := hr.shape
       rw [List.length_map, HN.out]
       have HB := Lib.hid (show WA w2 A2 ws c2 from hsr)
       have HA2 := Lib.hid (HA.out.made g2)
       have G2 := Lib.hid (grown_trans' G1.out g2)
       clear hr hsr g2))
  go_loopw [7, 8, 9, 28] (fun v7 _ _ iv wr => ∃ (i : Nat) (t : ByteArray), iv = .int .i64 i ∧ i ≤ n ∧ v7 = .string t ∧ Hid (t.data.toList = wideL 32 (q + 1) (ws.take i)) ∧ Hid (w2.grownBy wr none)) (fun _ _ _ iv _ => n - (intOf iv).toNat)
  case atStart => exact ⟨0, ⟨#[]⟩, rfl, Nat.zero_le _, rfl, rfl, World.grownBy.refl _ _⟩
  case round =>
    obtain ⟨i, t, rfl, hi, rfl, HT, HG⟩ := hrel
    by_cases hlt : i < n
    · have hii : (i : Int) < (n : Int) := by omega
      have hiw : i < ws.length := by rw [HN.out]; exact hlt
      obtain ⟨x, hx⟩ : ∃ x, ws[i] = x := ⟨_, rfl⟩
      obtain ⟨b1, o1, rfl, hc1⟩ := HA2.out.at_ hiw
      obtain ⟨b2, o2, rfl, hc2⟩ := HB.out.at_ hiw
      rw [hx] at hc1 hc2
      obtain ⟨xs, hxs⟩ : ∃ xs : ByteArray, xs = ⟨x.toArray⟩ := ⟨_, rfl⟩
      rw [← hxs] at hc1 hc2
      have a0 := hc1 wr HG.out
      have a1 := hc2 wr HG.out
      have HC1 := Lib.hid hc1
      have HXT := Lib.hid (show xs.data.toList = x by rw [hxs])
      have HXL := Lib.hid (show x.length ≤ 500 from HX1.out x (by rw [← hx]; exact List.getElem_mem _))
      have HTS := Lib.hid (show wideL 32 (q + 1) (ws.take (i + 1)) = wideL 32 (q + 1) (ws.take i) ++ (List.replicate (q + 1) 32 ++ x) by
        rw [List.take_succ_eq_append_getElem hiw, hx, wideL_snoc])
      have HTL := Lib.hid (show t.size ≤ 3000 by
        have h1 : t.data.toList.length = t.size := rfl
        rw [HT.out] at h1
        have := HK.out i hi
        omega)
      clear hiw hx hc1 hc2 hxs
      go_wp2
      go_quiet (fail)
      obtain ⟨wz, hwz⟩ : ∃ x, x = wr.drewN nq := ⟨_, rfl⟩
      have GZ := Lib.hid (show w2.grownBy wz none by rw [hwz]; exact grown_trans' HG.out (drewN_grown wr nq))
      rw [← hwz]
      clear hwz a0 a1
      go_wp2
      go_loopw [7, 9] (fun v7 v9 wx => ∃ (j : Nat) (u : ByteArray), v9 = .int .i64 j ∧ j ≤ q + 1 ∧ v7 = .string u ∧ Hid (u.data.toList = wideL 32 (q + 1) (ws.take i) ++ List.replicate j 32) ∧ wx = wz) (fun _ v9 _ => q + 1 - (intOf v9).toNat)
      case atStart => exact ⟨0, t, rfl, by omega, rfl, Lib.hid (show t.data.toList = wideL 32 (q + 1) (ws.take i) ++ List.replicate 0 32 by rw [HT.out]; simp), rfl⟩
      case round =>
        obtain ⟨j, u, rfl, hj, rfl, HU, rfl⟩ := hrel
        have hus : u.size ≤ 3004 := by
          have h1 : u.data.toList.length = u.size := rfl
          rw [HU.out, List.length_append, List.length_replicate] at h1
          have := HK.out i (by omega)
          have := HQ3.out
          omega
        by_cases hjq : j ≤ q
        · have hjqi : (j : Int) ≤ (q : Int) := by omega
          have z1 : ¬ 9223372036854775807 < u.size + 1 := by omega
          have hq3 := HQ3.out
          have HU2 := Lib.hid (show (u ++ ⟨#[32]⟩).data.toList = wideL 32 (q + 1) (ws.take i) ++ List.replicate (j + 1) 32 by
            rw [app_bytes HU.out rfl, List.replicate_succ', List.append_assoc])
          clear hus
          go_wp2
          go_roundw
          case rel => exact ⟨j + 1, _, by go_num, by omega, rfl, HU2.out, by first | rfl | trivial⟩
          case measure => simp [intOf]; omega
        · have hjqi : ¬ (j : Int) ≤ (q : Int) := by omega
          obtain rfl : j = q + 1 := by omega
          have a2 := HC1.out _ GZ.out
          have z2 : ¬ 9223372036854775807 < u.size + xs.size := by
            have h1 : xs.data.toList.length = xs.size := rfl
            rw [HXT.out] at h1
            have := HXL.out
            omega
          have HV := Lib.hid (show (u ++ xs).data.toList = wideL 32 (q + 1) (ws.take (i + 1)) by
            rw [app_bytes HU.out HXT.out, HTS.out, List.append_assoc])
          clear hus
          go_wp2
          go_roundw
          case rel => exact ⟨i + 1, _, by go_num, by omega, rfl, HV.out, GZ.out⟩
          case measure => simp [intOf]; omega
    · have hii : ¬ (i : Int) < (n : Int) := by omega
      have HV := Lib.hid (show t.data.toList = wideL 32 (q + 1) ws by rw [HT.out, List.take_of_length_le (by rw [HN.out]; omega)])
      have GA := Lib.hid (HA2.out.made HG.out)
      have GR := Lib.hid (grown_trans' G2.out HG.out)
      clear HT HG
      go_wp2_with (go_at_call 31
                   refine (W3.out _ t HV.out).mono ?_
                   rintro e w4 ⟨v, rfl, hr, g4⟩
                   obtain ⟨A4, c4, rfl, hsr, -⟩ := hr.shape
                   rw [List.length_map, HN.out]
                   have HC := Lib.hid (show WA w4 A4 ws c4 from hsr)
                   have HA4 := Lib.hid (GA.out.made g4)
                   have G4 := Lib.hid (grown_trans' GR.out g4)
                   clear hr hsr g4)
      go_loopw [11, 59] (fun _ iv wx => ∃ j : Nat, iv = .int .i64 j ∧ j ≤ n ∧ Hid (w4.grownBy wx none)) (fun _ iv _ => n - (intOf iv).toNat)
      case atStart => exact ⟨0, rfl, Nat.zero_le _, World.grownBy.refl _ _⟩
      case round =>
        obtain ⟨j, rfl, hj, HG⟩ := hrel
        by_cases hlt2 : j < n
        · have hji : (j : Int) < (n : Int) := by omega
          have hjw : j < ws.length := by rw [HN.out]; exact hlt2
          obtain ⟨x, hx⟩ : ∃ x, ws[j] = x := ⟨_, rfl⟩
          obtain ⟨b1, o1, rfl, hc1⟩ := HA4.out.at_ hjw
          obtain ⟨b2, o2, rfl, hc2⟩ := HC.out.at_ hjw
          rw [hx] at hc1 hc2
          have a0 := hc1 _ HG.out
          have a1 := hc2 _ HG.out
          clear hjw hx hc1 hc2
          go_wp2
          go_quiet (fail)
          go_wp2
          go_roundw
          case rel => exact ⟨j + 1, by go_num, by omega, grown_trans' HG.out (drewN_grown _ _)⟩
          case measure => simp [intOf]; omega
        · have hji : ¬ (j : Int) < (n : Int) := by omega
          go_wp2
          go_ret
          exact ⟨rfl, below_of_none (grown_trans' G4.out HG.out)⟩
end Go.Proofs.YtlkchajkhplapaaGreatDoor
