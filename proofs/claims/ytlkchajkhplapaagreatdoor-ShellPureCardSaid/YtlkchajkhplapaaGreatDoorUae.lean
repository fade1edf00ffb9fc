/- The document's At, May, come, find. -/
import Derived.Test.YtlkchajkhplapaaGreatDoorUac
namespace Go.Proofs.YtlkchajkhplapaaGreatDoor
open Go.RowKit Go.Maps Go.WideMaps

def atT (o : Option Nat) : Int := match o with
  | some i => i
  | none => -1
section
variable {w w' : World} {rb tb mb : Nat} {v : Value} {M N : List (List UInt8 × Nd)} {p : List UInt8} {n : Nd}
theorem RT.open_ (h : RT w rb v N) : ∃ A cap, v = .slice A N.length cap ∧ SR w w.heap.size A 5 (N.map ndC) cap := by
  obtain ⟨A, cap, hv, hs, -⟩ := h.row.shape
  rw [List.length_map] at hv
  exact ⟨A, cap, hv, hs⟩
/-- A node, where it lies. -/
theorem RT.elem (h : RT w rb v N) {i : Nat} {x : List UInt8 × Nd} (hx : N[i]? = some x) : ∃ ab ao cap, v = .slice (some ⟨ab, ao, none⟩) N.length cap ∧ ab < w.heap.size ∧ i < N.length ∧ ∀ j u, (ndC x)[j]? = some u → w.cell? ⟨ab, ao + i * 5 + j, none⟩ = some u := by
  obtain ⟨A, cap, hv, hs⟩ := h.open_
  obtain ⟨hi, hxe⟩ := List.getElem?_eq_some_iff.1 hx
  obtain ⟨ab, ao, rfl, hb, hc⟩ := hs.elem (k := i) (by rw [List.length_map]; exact hi)
  refine ⟨ab, ao, cap, hv, hb, hi, fun j u hj => ?_⟩
  rw [Nat.mul_comm]
  exact hc j u (by rw [List.getElem_map, hxe]; exact hj)
end

set_option maxRecDepth 10000 in
set_option maxHeartbeats 1000000 in
theorem rat_any (w : World) (rb : Nat) (v : Value) (N : List (List UInt8 × Nd)) (h : RT w rb v N) (p : List UInt8) :
    Calls Tryz.prog 54 #[.pointer (some ⟨rb, 0, none⟩), .string ⟨p.toArray⟩] w fun e w' => e = .returned (.int .i64 (atT (atS nmT N p))) ∧ w' = w := by
  obtain ⟨A, cap, rfl, hs⟩ := h.open_
  obtain ⟨n, hn⟩ : ∃ n, N.length = n := ⟨_, rfl⟩
  have hb := h.top
  rw [hn] at hb
  have HN := Lib.hid hn
  have HS := Lib.hid hs
  have N64 := Lib.hid (show n ≤ 64 by rw [← hn]; exact h.len)
  have q0 : w.cell? ⟨rb, 0, none⟩ = some (.slice A n cap) := hb.at_ rfl
  clear h hb hs hn
  go_enter Tryz.func54, Tryz.ntmps54
  go_wp2
  go_loopw [5] (fun v wr => ∃ k : Nat, k ≤ n ∧ v = .int .i64 k ∧ (∀ j y, N[j]? = some y → j < k → nmT y ≠ p) ∧ wr = w) (fun v _ => n - (intOf v).toNat)
  case atStart => exact ⟨0, Nat.zero_le _, rfl, (fun j y _ hj => by omega), rfl⟩
  case round =>
    obtain ⟨k, hk, rfl, hbe, rfl⟩ := hrel
    have HBE := Lib.hid hbe
    have hn0 := N64.out
    clear hbe
    by_cases hlt : k < n
    · have hlti : (k : Int) < (n : Int) := by omega
      have hkE : k < N.length := by rw [HN.out]; exact hlt
      obtain ⟨x, hx⟩ : ∃ x, N[k] = x := ⟨_, rfl⟩
      obtain ⟨ab, ao, hAe, -, hcells⟩ := HS.out.elem (k := k) (by rw [List.length_map]; exact hkE)
      have q1 : wr.cell? ⟨ab, ao + k * 5, none⟩ = some (.string ⟨x.1.toArray⟩) := by rw [Nat.mul_comm]; exact hcells 0 _ (by rw [List.getElem_map, hx]; rfl)
      have HX := Lib.hid (show N[k]? = some x by rw [List.getElem?_eq_getElem hkE, hx])
      subst hAe
      clear hcells hx
      by_cases he : x.1 = p
      · have d0 : (x.1 == p) = true := by simpa using he
        have HE := Lib.hid (show atS nmT N p = some k from atS_of HX.out he HBE.out)
        clear he
        go_wp2
        go_ret
        rw [HE.out]
        exact ⟨rfl, rfl⟩
      · have d0 : (x.1 == p) = false := by simpa using he
        have HNE := Lib.hid he
        clear he
        go_wp2
        go_roundw
        case rel =>
          refine ⟨k + 1, by omega, by go_num, fun j y hy hj => ?_, by first | rfl | trivial⟩
          by_cases e : j = k
          · subst e
            have := HX.out.symm.trans hy
            injection this with this
            subst this
            exact HNE.out
          · exact HBE.out j y hy (by omega)
        case measure => simp [intOf]; omega
    · have HE := Lib.hid (show atS nmT N p = none from atS_none.2 fun y hy => by
        obtain ⟨j, hj, rfl⟩ := List.getElem_of_mem hy
        exact HBE.out j _ (List.getElem?_eq_getElem hj) (by have := HN.out; omega))
      have hnlt : ¬ ((k : Int) < (n : Int)) := by omega
      go_wp2
      go_ret
      rw [HE.out]
      exact ⟨rfl, rfl⟩
theorem rat_no (w : World) (rb : Nat) (v : Value) (N : List (List UInt8 × Nd)) (h : RT w rb v N) (p : List UInt8) (hl : N.lookup p = none) :
    Calls Tryz.prog 54 #[.pointer (some ⟨rb, 0, none⟩), .string ⟨p.toArray⟩] w fun e w' => e = .returned (.int .i64 (-1)) ∧ w' = w := by
  have := rat_any w rb v N h p
  rw [look_none hl] at this
  exact this
theorem rat_yes (w : World) (rb : Nat) (v : Value) (N : List (List UInt8 × Nd)) (h : RT w rb v N) (p : List UInt8) (k : Nat) (ha : atS nmT N p = some k) :
    Calls Tryz.prog 54 #[.pointer (some ⟨rb, 0, none⟩), .string ⟨p.toArray⟩] w fun e w' => e = .returned (.int .i64 (k : Int)) ∧ w' = w := by
  have := rat_any w rb v N h p
  rw [ha] at this
  exact this

theorem bits_low : ∀ m : Fin 64, ∀ b ∈ [1, 2, 4], (decide (m.val % 8 / b % 2 = 1) = ((m.val &&& b) != 0)) ∧ (decide (m.val / 8 / b % 2 = 1) = ((m.val &&& b * 8) != 0)) := by decide
set_option maxRecDepth 10000 in
set_option maxHeartbeats 1000000 in
theorem rmay_any (w : World) (who : ByteArray) (bit : Nat) (path owner : ByteArray) (dir : Bool) (mode : Nat) (data : Value) (hm : mode < 64) (hb : bit = 1 ∨ bit = 2 ∨ bit = 4) :
    Calls Tryz.prog 49 #[.string who, .agg (nodeC path dir owner mode data).toArray, .int .i64 bit] w fun e w' => e = .returned (.bool (mayOk who bit owner mode)) ∧ w.grownBy w' none := by
  have hC := CB.new w 63 (nodeC path dir owner mode data)
  have G := Lib.hid (grown_alloc w (.cells (nodeC path dir owner mode data).toArray 63) none)
  by_cases h1 : who = rootB
  · subst h1
    rw [show mayOk rootB bit owner mode = true from by simp [mayOk]]
    clear hC
    simp only [rootB]
    go_enter Tryz.func49, Tryz.ntmps49
    go_wp2
    go_ret
    exact ⟨rfl, G.out⟩
  · have n1 := str_ne h1
    have n1' : (who.toList == [114, 111, 111, 116]) = false := by rw [show ([114, 111, 111, 116] : List UInt8) = rootB.toList from by rw [ByteArray.toList_eq]; rfl]; exact n1
    clear n1
    have ho := hC.at_ (i := 2) (v := .string owner) rfl
    have hmo := hC.at_ (i := 3) (v := .int .i64 mode) rfl
    have hbl := bits_low ⟨mode, hm⟩ bit (by rcases hb with rfl | rfl | rfl <;> decide)
    have ht8 : Int.tmod (mode : Int) 8 = ((mode % 8 : Nat) : Int) := (Int.ofNat_tmod mode 8).symm
    have hd8 : Int.tdiv (mode : Int) 8 = ((mode / 8 : Nat) : Int) := (Int.ofNat_tdiv mode 8).symm
    obtain ⟨r8, hr8⟩ : ∃ r, mode % 8 = r := ⟨_, rfl⟩
    obtain ⟨q8, hq8⟩ : ∃ r, mode / 8 = r := ⟨_, rfl⟩
    simp only [hr8, hq8] at ht8 hd8 hbl
    have hr88 : r8 < 8 := by omega
    have hq88 : q8 < 8 := by omega
    have hb0 : ((bit : Int) == 0) = false := beq_eq_false_iff_ne.2 (by omega)
    have hb00 : ¬ (bit : Int) = 0 := by omega
    have hbm : ¬ (bit : Int) = -1 := by omega
    by_cases h2 : who = owner
    · have hd : Int.tdiv (q8 : Int) (bit : Int) = ((q8 / bit : Nat) : Int) := (Int.ofNat_tdiv q8 bit).symm
      obtain ⟨d, hdd⟩ : ∃ r, q8 / bit = r := ⟨_, rfl⟩
      have ht2 : Int.tmod (d : Int) 2 = ((d % 2 : Nat) : Int) := (Int.ofNat_tmod d 2).symm
      obtain ⟨z, hz⟩ : ∃ r, d % 2 = r := ⟨_, rfl⟩
      simp only [hdd, hz] at hd ht2 hbl
      have hA : ((z : Int) == 1) = mayOk who bit owner mode := by
        rw [mayOk, decide_eq_false h1, if_pos h2, Bool.false_or, ← hbl.2]
        by_cases h : z = 1
        · subst h; rfl
        · rw [decide_eq_false h]; exact beq_eq_false_iff_ne.2 (by omega)
      have hdl : d ≤ 8 := by rw [← hdd]; exact Nat.le_trans (Nat.div_le_self _ _) (by omega)
      have HA := Lib.hid hA
      clear hA hbl hb hr8 hq8 hdd hz hC h1
      subst h2
      go_enter Tryz.func49, Tryz.ntmps49
      go_wp2
      go_ret
      exact ⟨by rw [← HA.out]; rfl, G.out⟩
    · have n2 := str_ne h2
      have hd : Int.tdiv (r8 : Int) (bit : Int) = ((r8 / bit : Nat) : Int) := (Int.ofNat_tdiv r8 bit).symm
      obtain ⟨d, hdd⟩ : ∃ r, r8 / bit = r := ⟨_, rfl⟩
      have ht2 : Int.tmod (d : Int) 2 = ((d % 2 : Nat) : Int) := (Int.ofNat_tmod d 2).symm
      obtain ⟨z, hz⟩ : ∃ r, d % 2 = r := ⟨_, rfl⟩
      simp only [hdd, hz] at hd ht2 hbl
      have hA : ((z : Int) == 1) = mayOk who bit owner mode := by
        rw [mayOk, decide_eq_false h1, if_neg h2, Bool.false_or, ← hbl.1]
        by_cases h : z = 1
        · subst h; rfl
        · rw [decide_eq_false h]; exact beq_eq_false_iff_ne.2 (by omega)
      have hdl : d ≤ 8 := by rw [← hdd]; exact Nat.le_trans (Nat.div_le_self _ _) (by omega)
      have HA := Lib.hid hA
      clear hA hbl hb hr8 hq8 hdd hz hC h1 h2
      go_enter Tryz.func49, Tryz.ntmps49
      go_wp2
      go_ret
      exact ⟨by rw [← HA.out]; rfl, G.out⟩
end Go.Proofs.YtlkchajkhplapaaGreatDoor
namespace Go.Proofs.YtlkchajkhplapaaGreatDoor
open Go.RowKit Go.Maps Go.WideMaps

/-- The directories that are asked on the way, i bytes of the path looked at. -/
def dirsB (p : List UInt8) : Nat → List (List UInt8)
  | 0 => []
  | i + 1 => dirs p i
theorem dirsB_succ {p : List UInt8} (h0 : p[0]? = some 47) (i : Nat) : dirsB p (i + 1) = dirsB p i ++ (if p[i]? = some 47 then [if i = 0 then [47] else p.take i] else []) := by
  cases i with
  | zero => show dirs p 0 = [] ++ _; rw [if_pos h0, if_pos rfl]; rfl
  | succ i =>
    show dirs p (i + 1) = dirs p i ++ _
    rw [dirs, if_neg (Nat.succ_ne_zero i)]
theorem dirsB_le {p : List UInt8} {i m : Nat} (h : i ≤ m) : dirsB p i <+: dirsB p m := by
  cases i with
  | zero => exact List.nil_prefix
  | succ i =>
    cases m with
    | zero => omega
    | succ m => exact dirs_le p (by omega)
theorem comeE_pre {N : List (List UInt8 × Nd)} {who : ByteArray} {a b : List (List UInt8)} (h : a <+: b) {c : Int} (hc : comeE N who a = c) (h0 : c ≠ 0) : comeE N who b = c := by
  obtain ⟨r, rfl⟩ := h
  rw [comeE_app, if_neg (by rw [hc]; exact h0), hc]

set_option maxRecDepth 10000 in
set_option maxHeartbeats 4000000 in
theorem rcome_any (w : World) (rb : Nat) (v : Value) (N : List (List UInt8 × Nd)) (h : RT w rb v N) (who s : ByteArray) (p : List UInt8) (hp : s.data.toList = p) (hs : p.length ≤ 100000) :
    Calls Tryz.prog 53 #[.pointer (some ⟨rb, 0, none⟩), .string who, .string s] w fun e w' => e = .returned (.int .i64 (comeR N who p).2) ∧ w.grownBy w' none := by
  have PA := Lib.hid (fun W => refPath_any W s p hp hs)
  have HT := Lib.hid h
  cases hok : pathOk p with
  | false =>
    have HK := Lib.hid hok
    have HR := Lib.hid (show (comeR N who p).2 = 30 by unfold comeR; rw [if_pos hok])
    clear h hp hs hok
    rw [HR.out]
    go_enter Tryz.func53, Tryz.ntmps53
    go_wp2_with (go_at_call 71; refine (PA.out _).mono ?_; rintro e w1 ⟨rfl, g1⟩; rw [HK.out]; have G1 := Lib.hid g1; clear g1)
    go_ret
    exact ⟨rfl, G1.out⟩
  | true =>
  have HK := Lib.hid hok
  have hR : (comeR N who p).2 = comeE N who (aheads p) := by
    unfold comeR
    rw [if_neg (by rw [hok]; decide)]
    by_cases hz : comeE N who (aheads p) = 0
    · rw [if_pos hz, hz]
    · rw [if_neg hz]
  obtain ⟨t, ht⟩ := path_head hok
  by_cases h47 : p = [47]
  · have HR := Lib.hid (show (comeR N who p).2 = 0 by rw [hR, h47]; rfl)
    have hse : s = ⟨#[47]⟩ := by rw [bytes_of hp, h47]
    subst hse
    rw [HR.out]
    clear h hp hs hok hR ht
    go_enter Tryz.func53, Tryz.ntmps53
    go_wp2_with (go_at_call 71; refine (PA.out _).mono ?_; rintro e w1 ⟨rfl, g1⟩; rw [HK.out]; have G1 := Lib.hid g1; clear g1)
    go_loopw [7] (fun i wr => i = .int .i64 0 ∧ wr = w1) (fun _ _ => 0)
    case atStart => exact ⟨rfl, rfl⟩
    case round =>
      obtain ⟨rfl, rfl⟩ := hrel
      go_wp2
      go_ret
      exact ⟨rfl, G1.out⟩
  · have n1 := str_ne (a := s) (b := ⟨#[47]⟩) (fun e => h47 (by rw [← hp, e]))
    have n1' : (s.toList == [47]) = false := by rw [show ([47] : List UInt8) = (⟨#[47]⟩ : ByteArray).toList from by rw [ByteArray.toList_eq]]; exact n1
    obtain ⟨m, hm⟩ : ∃ m, s.size = m := ⟨_, rfl⟩
    have hpm : p.length = m := by rw [← hm, ← hp]; rfl
    have hAH : aheads p = dirsB p m := by
      unfold aheads
      rw [if_neg h47, hpm]
      cases m with
      | zero => rw [ht] at hpm; simp at hpm
      | succ m => rfl
    have HR := Lib.hid (show (comeR N who p).2 = comeE N who (dirsB p m) by rw [hR, hAH])
    have HP0 := Lib.hid (show p[0]? = some 47 by rw [ht]; rfl)
    have HM := Lib.hid hm
    have HPM := Lib.hid hpm
    have HPS := Lib.hid hp
    have HS5 := Lib.hid (show m ≤ 100000 by omega)
    obtain ⟨n, hn⟩ : ∃ n, N.length = n := ⟨_, rfl⟩
    have HN := Lib.hid hn
    have HN64 := Lib.hid (show n ≤ 64 by rw [← hn]; exact h.len)
    rw [HR.out]
    clear h hp hs hok hR ht n1 hpm hAH hn h47
    go_enter Tryz.func53, Tryz.ntmps53
    go_wp2_with (go_at_call 71; refine (PA.out _).mono ?_; rintro e w1 ⟨rfl, g1⟩; rw [HK.out]; have G1 := Lib.hid g1; clear g1)
    go_loopw [7] (fun i wr => ∃ k : Nat, i = .int .i64 k ∧ k ≤ m ∧ Hid (comeE N who (dirsB p k) = 0) ∧ Hid (w.grownBy wr none)) (fun i _ => m - (intOf i).toNat)
    case atStart => exact ⟨0, rfl, Nat.zero_le _, rfl, G1.out⟩
    case round =>
      obtain ⟨k, rfl, hk, HE, HW⟩ := hrel
      have hm5 := HS5.out
      by_cases hlt : k < m
      · have hki : (k : Int) < (m : Int) := by omega
        have hks : k < s.size := by have := HM.out; omega
        have hki2 : (k : Int) < (s.size : Int) := by omega
        obtain ⟨u, hu⟩ : ∃ u, p[k]? = some u := ⟨_, List.getElem?_eq_getElem (by have := HPM.out; omega)⟩
        have hg : s[k]'hks = u := by
          obtain ⟨h1, h2⟩ := List.getElem?_eq_some_iff.1 hu
          have := HPS.out
          subst this
          rw [← h2]
          simp [ByteArray.getElem_eq_getElem_data]
        have HU := Lib.hid hu
        by_cases h7 : u = 47
        · have hu7 : ((u.toNat : Int) == 47) = true := by subst h7; rfl
          have hu8 : (u.toNat : Int) = 47 := by subst h7; rfl
          have HD := Lib.hid (show dirsB p (k + 1) = dirsB p k ++ [if k = 0 then [47] else p.take k] by rw [dirsB_succ HP0.out, HU.out, h7, if_pos rfl])
          obtain ⟨up, hup⟩ : ∃ up, (if k = 0 then [47] else p.take k) = up := ⟨_, rfl⟩
          rw [hup] at HD
          have HX := Lib.hid (show s.extract 0 k = ⟨(p.take k).toArray⟩ from by rw [bytes_of (ext_data s p HPS.out 0 k), List.drop_zero])
          have hE : comeE N who (dirsB p (k + 1)) = comeE N who [up] := by rw [HD.out, comeE_app, if_pos HE.out]
          have HE1 := Lib.hid hE
          have HPR := Lib.hid (show dirsB p (k + 1) <+: dirsB p m from dirsB_le (by omega))
          have RW := Lib.hid (HT.out.far HW.out (by simp) (by simp) (by simp))
          have hku : (if k = 0 then s = s else True) := by split <;> trivial
          clear hu hE hku
          -- the look-up
          cases hl : N.lookup up with
          | none =>
            have HF := Lib.hid (show comeE N who (dirsB p m) = 110 from comeE_pre HPR.out (by rw [HE1.out, comeE, hl]) (by decide))
            have AT := Lib.hid (rat_no wr rb v N RW.out up hl)
            clear hl
            by_cases hk0 : k = 0
            · subst hk0
              rw [if_pos rfl] at hup
              subst hup
              go_wp2_with (go_at_call 54; refine AT.out.mono ?_; rintro e w5 ⟨rfl, rfl⟩)
              go_ret
              exact ⟨by rw [HF.out]; rfl, HW.out⟩
            · rw [if_neg hk0] at hup
              have hk1 : ((k : Int) == 0) = false := beq_eq_false_iff_ne.2 (by omega)
              rw [← hup] at AT
              clear hup
              go_wp2_with (go_at_call 54; rw [HX.out]; refine AT.out.mono ?_; rintro e w5 ⟨rfl, rfl⟩)
              go_ret
              exact ⟨by rw [HF.out]; rfl, HW.out⟩
          | some nd =>
            obtain ⟨j, hj, hjx⟩ := look_some HT.out.nodup hl
            have AT := Lib.hid (rat_yes wr rb v N RW.out up j hj)
            obtain ⟨ab, ao, cap, hv, hab, hjn, hcl⟩ := RW.out.elem hjx
            have htop := RW.out.top
            rw [hv, HN.out] at htop
            rw [HN.out] at hjn
            have q0 : wr.cell? ⟨rb, 0, none⟩ = some (.slice (some ⟨ab, ao, none⟩) n cap) := htop.at_ rfl
            have q1 : wr.cell? ⟨ab, ao + j * 5 + 1, none⟩ = some (.bool nd.dir) := hcl 1 _ rfl
            have hn6 := HN64.out
            have hji : (j : Int) < (n : Int) := by omega
            have hj0 : ¬ (j : Int) < 0 := by omega
            have HCL := Lib.hid hcl
            have HMO := Lib.hid (HT.out.mode _ (List.mem_of_getElem? hjx))
            have hE2 : comeE N who [up] = if nd.dir = false then 112 else if mayOk who 1 nd.owner nd.mode = false then 114 else 0 := by rw [comeE, hl]; rfl
            have HE2 := Lib.hid hE2
            clear hl hj hjx hv hab htop hcl hE2
            cases hd : nd.dir with
            | false =>
              have HF := Lib.hid (show comeE N who (dirsB p m) = 112 from comeE_pre HPR.out (by rw [HE1.out, HE2.out, if_pos hd]) (by decide))
              rw [hd] at q1
              clear hd
              by_cases hk0 : k = 0
              · subst hk0
                rw [if_pos rfl] at hup
                subst hup
                go_wp2_with (go_at_call 54; refine AT.out.mono ?_; rintro e w5 ⟨rfl, rfl⟩)
                go_ret
                exact ⟨by rw [HF.out]; rfl, HW.out⟩
              · rw [if_neg hk0] at hup
                have hk1 : ((k : Int) == 0) = false := beq_eq_false_iff_ne.2 (by omega)
                rw [← hup] at AT
                clear hup
                go_wp2_with (go_at_call 54; rw [HX.out]; refine AT.out.mono ?_; rintro e w5 ⟨rfl, rfl⟩)
                go_ret
                exact ⟨by rw [HF.out]; rfl, HW.out⟩
            | true =>
              rw [hd] at q1
              have MA := Lib.hid (rmay_any wr who 1 ⟨up.toArray⟩ nd.owner nd.dir nd.mode nd.data HMO.out (.inl rfl))
              cases hmy : mayOk who 1 nd.owner nd.mode with
              | false =>
                have HF := Lib.hid (show comeE N who (dirsB p m) = 114 from comeE_pre HPR.out (by rw [HE1.out, HE2.out, if_neg (by rw [hd]; decide), if_pos hmy]) (by decide))
                have HMY := Lib.hid hmy
                clear hd hmy
                by_cases hk0 : k = 0
                · subst hk0
                  rw [if_pos rfl] at hup
                  subst hup
                  go_wp2_with (first
                    | (go_at_call 54; refine AT.out.mono ?_; rintro e w5 ⟨rfl, rfl⟩)
                    | (refine wpList_loadX (p := ndC ([47], nd)) aggNd rfl (.tmp 52) rfl (b := ab) (off := ao + j * 5) HCL.out rfl (by first | rfl | go_simp) ?_)
                    | (go_at_call 49; refine MA.out.mono ?_; rw [HMY.out]; rintro e w6 ⟨rfl, g6⟩; have G6 := Lib.hid (grown_trans' HW.out g6); clear g6))
                  go_ret
                  exact ⟨by rw [HF.out]; rfl, G6.out⟩
                · rw [if_neg hk0] at hup
                  have hk1 : ((k : Int) == 0) = false := beq_eq_false_iff_ne.2 (by omega)
                  rw [← hup] at AT MA HCL
                  clear hup
                  go_wp2_with (first
                    | (go_at_call 54; rw [HX.out]; refine AT.out.mono ?_; rintro e w5 ⟨rfl, rfl⟩)
                    | (refine wpList_loadX (p := ndC (p.take k, nd)) aggNd rfl (.tmp 52) rfl (b := ab) (off := ao + j * 5) HCL.out rfl (by first | rfl | go_simp) ?_)
                    | (go_at_call 49; refine MA.out.mono ?_; rw [HMY.out]; rintro e w6 ⟨rfl, g6⟩; have G6 := Lib.hid (grown_trans' HW.out g6); clear g6))
                  go_ret
                  exact ⟨by rw [HF.out]; rfl, G6.out⟩
              | true =>
                have HF := Lib.hid (show comeE N who (dirsB p (k + 1)) = 0 by rw [HE1.out, HE2.out, if_neg (by rw [hd]; decide), if_neg (by rw [hmy]; decide)])
                have HMY := Lib.hid hmy
                clear hd hmy
                by_cases hk0 : k = 0
                · subst hk0
                  rw [if_pos rfl] at hup
                  subst hup
                  go_wp2_with (first
                    | (go_at_call 54; refine AT.out.mono ?_; rintro e w5 ⟨rfl, rfl⟩)
                    | (refine wpList_loadX (p := ndC ([47], nd)) aggNd rfl (.tmp 52) rfl (b := ab) (off := ao + j * 5) HCL.out rfl (by first | rfl | go_simp) ?_)
                    | (go_at_call 49; refine MA.out.mono ?_; rw [HMY.out]; rintro e w6 ⟨rfl, g6⟩; have G6 := Lib.hid (grown_trans' HW.out g6); clear g6))
                  go_roundw
                  case rel => exact ⟨1, by go_num, by omega, HF.out, G6.out⟩
                  case measure => simp [intOf]; omega
                · rw [if_neg hk0] at hup
                  have hk1 : ((k : Int) == 0) = false := beq_eq_false_iff_ne.2 (by omega)
                  rw [← hup] at AT MA HCL
                  clear hup
                  go_wp2_with (first
                    | (go_at_call 54; rw [HX.out]; refine AT.out.mono ?_; rintro e w5 ⟨rfl, rfl⟩)
                    | (refine wpList_loadX (p := ndC (p.take k, nd)) aggNd rfl (.tmp 52) rfl (b := ab) (off := ao + j * 5) HCL.out rfl (by first | rfl | go_simp) ?_)
                    | (go_at_call 49; refine MA.out.mono ?_; rw [HMY.out]; rintro e w6 ⟨rfl, g6⟩; have G6 := Lib.hid (grown_trans' HW.out g6); clear g6))
                  go_roundw
                  case rel => exact ⟨k + 1, by go_num, by omega, HF.out, G6.out⟩
                  case measure => simp [intOf]; omega
        · have hu7 : ((u.toNat : Int) == 47) = false := beq_eq_false_iff_ne.2 (fun e => h7 (UInt8.toNat.inj (by show u.toNat = 47; omega)))
          have hu8 : ¬ (u.toNat : Int) = 47 := fun e => h7 (UInt8.toNat.inj (by show u.toNat = 47; omega))
          have HF := Lib.hid (show comeE N who (dirsB p (k + 1)) = 0 by rw [dirsB_succ HP0.out, HU.out, if_neg (by intro e; injection e with e; exact h7 e), List.append_nil]; exact HE.out)
          clear hu h7
          go_wp2
          go_roundw
          case rel => exact ⟨k + 1, by go_num, by omega, HF.out, HW.out⟩
          case measure => simp [intOf]; omega
      · have hki : ¬ (k : Int) < (m : Int) := by omega
        have hkm : k = m := by omega
        subst hkm
        go_wp2
        go_ret
        exact ⟨by rw [HE.out]; rfl, HW.out⟩
/-- What find tells: a place, and the error's number. -/
def placeR (N : List (List UInt8 × Nd)) (who : ByteArray) (p : List UInt8) : Int := match (findR N who p).1 with
  | none => -1
  | some _ => atT (atS nmT N p)
set_option maxRecDepth 10000 in
set_option maxHeartbeats 2000000 in
theorem rfind_any (w : World) (rb : Nat) (v : Value) (N : List (List UInt8 × Nd)) (h : RT w rb v N) (who s : ByteArray) (p : List UInt8) (hp : s.data.toList = p) (hs : p.length ≤ 100000) :
    Calls Tryz.prog 60 #[.pointer (some ⟨rb, 0, none⟩), .string who, .string s] w fun e w' => e = .returned (.tuple #[.int .i64 (placeR N who p), .int .i64 (findR N who p).2]) ∧ w.grownBy w' none := by
  have CA := Lib.hid (rcome_any w rb v N h who s p hp hs)
  have HT := Lib.hid h
  have HP := Lib.hid (bytes_of hp)
  have key : (∃ c, c ≠ 0 ∧ (comeR N who p).2 = c ∧ findR N who p = (none, c)) ∨ ((comeR N who p).2 = 0 ∧ N.lookup p = none ∧ findR N who p = (none, 110)) ∨ (∃ n, (comeR N who p).2 = 0 ∧ N.lookup p = some n ∧ findR N who p = (some n, 0)) := by
    unfold comeR findR
    by_cases h1 : pathOk p = false
    · rw [if_pos h1, if_pos h1]; exact .inl ⟨30, by decide, rfl, rfl⟩
    · rw [if_neg h1, if_neg h1]
      by_cases h2 : comeE N who (aheads p) = 0
      · rw [if_pos h2, if_pos h2]
        cases hl : N.lookup p with
        | none => exact .inr (.inl ⟨rfl, rfl, rfl⟩)
        | some n => exact .inr (.inr ⟨n, rfl, rfl, rfl⟩)
      · rw [if_neg h2, if_neg h2]; exact .inl ⟨_, h2, rfl, rfl⟩
  unfold placeR
  clear h hp hs
  rcases key with ⟨c, h0, hc, hf⟩ | ⟨hc, hl, hf⟩ | ⟨n, hc, hl, hf⟩
  · rw [hf]
    have hcq : (c == 0) = false := beq_eq_false_iff_ne.2 h0
    have HC := Lib.hid hc
    clear hf hc h0
    go_enter Tryz.func60, Tryz.ntmps60
    go_wp2_with (go_at_call 53; refine CA.out.mono ?_; rw [HC.out]; rintro e w1 ⟨rfl, g1⟩; have G1 := Lib.hid g1; clear g1)
    go_ret2
    exact ⟨rfl, G1.out⟩
  · rw [hf]
    have HC := Lib.hid hc
    have HL := Lib.hid hl
    clear hf hc hl
    go_enter Tryz.func60, Tryz.ntmps60
    go_wp2_with (first
      | (go_at_call 53; refine CA.out.mono ?_; rw [HC.out]; rintro e w1 ⟨rfl, g1⟩; have G1 := Lib.hid g1; have RW := Lib.hid (HT.out.far g1 (by simp) (by simp) (by simp)); clear g1)
      | (go_at_call 54; rw [HP.out]; refine (rat_no _ rb v N RW.out p HL.out).mono ?_; rintro e w2 ⟨rfl, rfl⟩))
    go_ret2
    exact ⟨rfl, G1.out⟩
  · rw [hf]
    obtain ⟨j, hj, hjx⟩ := look_some HT.out.nodup hl
    have hjl : j < N.length := (List.getElem?_eq_some_iff.1 hjx).1
    have hj0 : ¬ (j : Int) < 0 := by omega
    simp only [hj, atT]
    have HC := Lib.hid hc
    have HJ := Lib.hid hj
    clear hf hc hl hj hjx hjl
    go_enter Tryz.func60, Tryz.ntmps60
    go_wp2_with (first
      | (go_at_call 53; refine CA.out.mono ?_; rw [HC.out]; rintro e w1 ⟨rfl, g1⟩; have G1 := Lib.hid g1; have RW := Lib.hid (HT.out.far g1 (by simp) (by simp) (by simp)); clear g1)
      | (go_at_call 54; rw [HP.out]; refine (rat_yes _ rb v N RW.out p j HJ.out).mono ?_; rintro e w2 ⟨rfl, rfl⟩))
    go_ret2
    exact ⟨rfl, G1.out⟩
end Go.Proofs.YtlkchajkhplapaaGreatDoor
