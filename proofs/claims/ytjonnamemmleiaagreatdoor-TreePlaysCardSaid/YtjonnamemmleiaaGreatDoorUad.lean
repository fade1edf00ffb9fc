/- The document's At, May, come, find. -/
import Derived.Test.YtjonnamemmleiaaGreatDoorUac
namespace Go.Proofs.YtjonnamemmleiaaGreatDoor
open Go.RowKit Go.Maps Go.WideMaps

def atT (o : Option Nat) : Int := match o with
  | some i => i
  | none => -1
section
variable {w w' : World} {rb tb mb : Nat} {v : Value} {M N : List (List UInt8 × Nd)} {p : List UInt8} {n : Nd}
theorem RT.open_ (h : RT w rb v N) : ∃ A cap, v = .slice A N.length cap ∧ SR w w.heap.size A 5 (N.map ndC) cap := by
  obtain ⟨A, cap, hv, hs, -⟩ := h.row.shape
  rw [List.length_map] at hv
  exact ⟨A, cap, hv, hs⟩
/-- A node, where it lies. -/
theorem RT.elem (h : RT w rb v N) {i : Nat} {x : List UInt8 × Nd} (hx : N[i]? = some x) : ∃ ab ao cap, v = .slice (some ⟨ab, ao, none⟩) N.length cap ∧ ab < w.heap.size ∧ i < N.length ∧ ∀ j u, (ndC x)[j]? = some u → w.cell? ⟨ab, ao + i * 5 + j, none⟩ = some u := by
  obtain ⟨A, cap, hv, hs⟩ := h.open_
  obtain ⟨hi, hxe⟩ := List.getElem?_eq_some_iff.1 hx
  obtain ⟨ab, ao, rfl, hb, hc⟩ := hs.elem (k := i) (by rw [List.length_map]; exact hi)
  refine ⟨ab, ao, cap, hv, hb, hi, fun j u hj => ?_⟩
  rw [Nat.mul_comm]
  exact hc j u (by rw [List.getElem_map, hxe]; exact hj)
end

set_option maxRecDepth 10000 in
set_option maxHeartbeats 1000000 in
theorem rat_any (w : World) (rb : Nat) (v : Value) (N : List (List UInt8 × Nd)) (h : RT w rb v N) (p : List UInt8) :
    Calls Tryz.prog 54 #[.pointer (some ⟨rb, 0, none⟩), .string ⟨p.toArray⟩] w fun e w' => e = .returned (.int .i64 (atT (atS nmT N p))) ∧ w' = w := by
  obtain ⟨A, cap, rfl, hs⟩ := h.open_
  obtain ⟨n, hn⟩ : ∃ n, N.length = n := ⟨_, rfl⟩
  have hb := h.top
  rw [hn] at hb
  have HN := Lib.hid hn
  have HS := Lib.hid hs
  have N64 := Lib.hid (show n ≤ 64 by rw [← hn]; exact h.len)
  have q0 : w.cell? ⟨rb, 0, none⟩ = some (.slice A n cap) := hb.at_ rfl
  clear h hb hs hn
  go_enter Tryz.func54, Tryz.ntmps54
  go_wp2
  go_loopw [5] (fun v wr => ∃ k : Nat, k ≤ n ∧ v = .int .i64 k ∧ (∀ j y, N[j]? = some y → j < k → nmT y ≠ p) ∧ wr = w) (fun v _ => n - (intOf v).toNat)
  case atStart => exact ⟨0, Nat.zero_le _, rfl, (fun j y _ hj => by omega), rfl⟩
  case round =>
    obtain ⟨k, hk, rfl, hbe, rfl⟩ := hrel
    have HBE := Lib.hid hbe
    have hn0 := N64.out
    clear hbe
    by_cases hlt : k < n
    · have hlti : (k : Int) < (n : Int) := by omega
      have hkE : k < N.length := by rw [HN.out]; exact hlt
      obtain ⟨x, hx⟩ : ∃ x, N[k] = x := ⟨_, rfl⟩
      obtain ⟨ab, ao, hAe, -, hcells⟩ := HS.out.elem (k := k) (by rw [List.length_map]; exact hkE)
      have q1 : wr.cell? ⟨ab, ao + k * 5, none⟩ = some (.string ⟨x.1.toArray⟩) := by rw [Nat.mul_comm]; exact hcells 0 _ (by rw [List.getElem_map, hx]; rfl)
      have HX := Lib.hid (show N[k]? = some x by rw [List.getElem?_eq_getElem hkE, hx])
      subst hAe
      clear hcells hx
      by_cases he : x.1 = p
      · have d0 : (x.1 == p) = true := by simpa using he
        have HE := Lib.hid (show atS nmT N p = some k from atS_of HX.out he HBE.out)
        clear he
        go_wp2
        go_ret
        rw [HE.out]
        exact ⟨rfl, rfl⟩
      · have d0 : (x.1 == p) = false := by simpa using he
        have HNE := Lib.hid he
        clear he
        go_wp2
        go_roundw
        case rel =>
          refine ⟨k + 1, by omega, by go_num, fun j y hy hj => ?_, by first | rfl | trivial⟩
          by_cases e : j = k
          · subst e
            have := HX.out.symm.trans hy
            injection this with this
            subst this
            exact HNE.out
          · exact HBE.out j y hy (by omega)
        case measure => simp [intOf]; omega
    · have HE := Lib.hid (show atS nmT N p = none from atS_none.2 fun y hy => by
        obtain ⟨j, hj, rfl⟩ := List.getElem_of_mem hy
        exact HBE.out j _ (List.getElem?_eq_getElem hj) (by have := HN.out; omega))
      have hnlt : ¬ ((k : Int) < (n : Int)) := by omega
      go_wp2
      go_ret
      rw [HE.out]
      exact ⟨rfl, rfl⟩
theorem rat_no (w : World) (rb : Nat) (v : Value) (N : List (List UInt8 × Nd)) (h : RT w rb v N) (p : List UInt8) (hl : N.lookup p = none) :
    Calls Tryz.prog 54 #[.pointer (some ⟨rb, 0, none⟩), .string ⟨p.toArray⟩] w fun e w' => e = .returned (.int .i64 (-1)) ∧ w' = w := by
  have := rat_any w rb v N h p
  rw [look_none hl] at this
  exact this
theorem rat_yes (w : World) (rb : Nat) (v : Value) (N : List (List UInt8 × Nd)) (h : RT w rb v N) (p : List UInt8) (k : Nat) (ha : atS nmT N p = some k) :
    Calls Tryz.prog 54 #[.pointer (some ⟨rb, 0, none⟩), .string ⟨p.toArray⟩] w fun e w' => e = .returned (.int .i64 (k : Int)) ∧ w' = w := by
  have := rat_any w rb v N h p
  rw [ha] at this
  exact this

theorem bits_low : ∀ m : Fin 64, ∀ b ∈ [1, 2, 4], (decide (m.val % 8 / b % 2 = 1) = ((m.val &&& b) != 0)) ∧ (decide (m.val / 8 / b % 2 = 1) = ((m.val &&& b * 8) != 0)) := by decide
set_option maxRecDepth 10000 in
set_option maxHeartbeats 1000000 in
theorem rmay_any (w : World) (who : ByteArray) (bit : Nat) (path owner : ByteArray) (dir : Bool) (mode : Nat) (data : Value) (hm : mode < 64) (hb : bit = 1 ∨ bit = 2 ∨ bit = 4) :
    Calls Tryz.prog 49 #[.string who, .agg (nodeC path dir owner mode data).toArray, .int .i64 bit] w fun e w' => e = .returned (.bool (mayOk who bit owner mode)) ∧ w.grownBy w' none := by
  have hC := CB.new w 63 (nodeC path dir owner mode data)
  have G := Lib.hid (grown_alloc w (.cells (nodeC path dir owner mode data).toArray 63) none)
  by_cases h1 : who = rootB
  · subst h1
    rw [show mayOk rootB bit owner mode = true from by simp [mayOk]]
    clear hC
    simp only [rootB]
    go_enter Tryz.func49, Tryz.ntmps49
    go_wp2
    go_ret
    exact ⟨rfl, G.out⟩
  · have n1 := str_ne h1
    have n1' : (who.toList == [114, 111, 111, 116]) = false := by rw [show ([114, 111, 111, 116] : List UInt8) = rootB.toList from by rw [ByteArray.toList_eq]; rfl]; exact n1
    clear n1
    have ho := hC.at_ (i := 2) (v := .string owner) rfl
    have hmo := hC.at_ (i := 3) (v := .int .i64 mode) rfl
    have hbl := bits_low ⟨mode, hm⟩ bit (by rcases hb with rfl | rfl | rfl <;> decide)
    have ht8 : Int.tmod (mode : Int) 8 = ((mode % 8 : Nat) : Int) := (Int.ofNat_tmod mode 8).symm
    have hd8 : Int.tdiv (mode : Int) 8 = ((mode / 8 : Nat) : Int) := (Int.ofNat_tdiv mode 8).symm
    obtain ⟨r8, hr8⟩ : ∃ r, mode % 8 = r := ⟨_, rfl⟩
    obtain ⟨q8, hq8⟩ : ∃ r, mode / 8 = r := ⟨_, rfl⟩
    simp only [hr8, hq8] at ht8 hd8 hbl
    have hr88 : r8 < 8 := by omega
    have hq88 : q8 < 8 := by omega
    have hb0 : ((bit : Int) == 0) = false := beq_eq_false_iff_ne.2 (by omega)
    have hb00 : ¬ (bit : Int) = 0 := by omega
    have hbm : ¬ (bit : Int) = -1 := by omega
    by_cases h2 : who = owner
    · have hd : Int.tdiv (q8 : Int) (bit : Int) = ((q8 / bit : Nat) : Int) := (Int.ofNat_tdiv q8 bit).symm
      obtain ⟨d, hdd⟩ : ∃ r, q8 / bit = r := ⟨_, rfl⟩
      have ht2 : Int.tmod (d : Int) 2 = ((d % 2 : Nat) : Int) := (Int.ofNat_tmod d 2).symm
      obtain ⟨z, hz⟩ : ∃ r, d % 2 = r := ⟨_, rfl⟩
      simp only [hdd, hz] at hd ht2 hbl
      have hA : ((z : Int) == 1) = mayOk who bit owner mode := by
        rw [mayOk, decide_eq_false h1, if_pos h2, Bool.false_or, ← hbl.2]
        by_cases h : z = 1
        · subst h; rfl
        · rw [decide_eq_false h]; exact beq_eq_false_iff_ne.2 (by omega)
      have hdl : d ≤ 8 := by rw [← hdd]; exact Nat.le_trans (Nat.div_le_self _ _) (by omega)
      have HA := Lib.hid hA
      clear hA hbl hb hr8 hq8 hdd hz hC h1
      subst h2
      go_enter Tryz.func49, Tryz.ntmps49
      go_wp2
      go_ret
      exact ⟨by rw [← HA.out]; rfl, G.out⟩
    · have n2 := str_ne h2
      have hd : Int.tdiv (r8 : Int) (bit : Int) = ((r8 / bit : Nat) : Int) := (Int.ofNat_tdiv r8 bit).symm
      obtain ⟨d, hdd⟩ : ∃ r, r8 / bit = r := ⟨_, rfl⟩
      have ht2 : Int.tmod (d : Int) 2 = ((d % 2 : Nat) : Int) := (Int.ofNat_tmod d 2).symm
      obtain ⟨z, hz⟩ : ∃ r, d % 2 = r := ⟨_, rfl⟩
      simp only [hdd, hz] at hd ht2 hbl
      have hA : ((z : Int) == 1) = mayOk who bit owner mode := by
        rw [mayOk, decide_eq_false h1, if_neg h2, Bool.false_or, ← hbl.1]
        by_cases h : z = 1
        · subst h; rfl
        · rw [decide_eq_false h]; exact beq_eq_false_iff_ne.2 (by omega)
      have hdl : d ≤ 8 := by rw [← hdd]; exact Nat.le_trans (Nat.div_le_self _ _) (by omega)
      have HA := Lib.hid hA
      clear hA hbl hb hr8 hq8 hdd hz hC h1 h2
      go_enter Tryz.func49, Tryz.ntmps49
      go_wp2
      go_ret
      exact ⟨by rw [← HA.out]; rfl, G.out⟩
end Go.Proofs.YtjonnamemmleiaaGreatDoor
