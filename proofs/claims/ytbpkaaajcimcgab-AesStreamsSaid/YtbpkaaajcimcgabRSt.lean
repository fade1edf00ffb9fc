/- The walk of Stream of the document's answer. -/
import Derived.Test.YtbpkaaajcimcgabRBl
namespace Go.Proofs.Ytbpkaaajcimcgab
open Go.RowKit

theorem BB.far_row {w w' : World} {g : Nat} {t : TypeId} {l : List UInt8} {r : Option Nat} (h : BB w g t l) (hg : w.grownBy w' r) (hne : r ≠ some g) : BB w' g t l := (hg.block g h.lt (fun e => hne e.symm)).trans h
theorem own_ne_BB {w : World} {base g : Nat} {e t : TypeId} {v : Value} {l m : List UInt8} (h : OwnB w base e v l) (hg : BB w g t m) (hne : e ≠ t) : v.ownBlock ≠ some g := by
  rcases h.2 with ⟨rfl, _⟩ | ⟨g', cap, cur, rfl, _, hh, _⟩
  · simp [Value.ownBlock]
  · intro he
    have : g' = g := by simpa [Value.ownBlock] using he
    subst this
    unfold BB at hg
    rw [hg] at hh
    injection hh with hh
    injection hh with _ ht
    exact hne ht.symm
theorem OwnB.past {w w' : World} {base : Nat} {e : TypeId} {v : Value} {l : List UInt8} {g : Nat} (h : OwnB w base e v l) (hg : w.grownBy w' (some g)) (hne : v.ownBlock ≠ some g) : OwnB w' base e v l :=
  World.ownsRow.kept h hg (.inr hne)

theorem yields_cell {P : Program} {ops : Array Oper} {S : World → Prop} {oi : Oper} {a : Act} {ty : TypeId} (hu8 : P.underlying ty = some (.int .u8)) (x : Operand) (ho : oi.op = .load ty x) (hw : Region.wanted oi (yielded ops a.tmps) = true)
    {ad : Addr} {v : Value} (h : ∀ wx, S wx → wx.cell? ad = some v) (hx : a.eval x = .pointer (some ad)) : YieldsIf P ops S oi v a := by
  refine .inl ⟨hw, fun wx hS => ?_⟩
  have hc := h wx hS
  have hag : (isAgg ty).run P wx = .ok false wx := by
    unfold isAgg
    rw [Sem.run_bind, run_underlying hu8 wx]
    rfl
  unfold execOp
  simp only [ho, hx]
  simp [go_sem, hag, hc]

/-- The block of two numbers, the first k bytes of each laid. -/
def inTo (a b k : Nat) : List UInt8 := (List.range 16).map fun i => if i < 8 then (if i < k then UInt8.ofNat (a / 2 ^ (8 * (7 - i))) else 0) else (if i < 8 + k then UInt8.ofNat (b / 2 ^ (8 * (15 - i))) else 0)
theorem inTo_at (a b k i : Nat) (h : i < 16) : (inTo a b k)[i]? = some (if i < 8 then (if i < k then UInt8.ofNat (a / 2 ^ (8 * (7 - i))) else 0) else (if i < 8 + k then UInt8.ofNat (b / 2 ^ (8 * (15 - i))) else 0)) := by
  rw [inTo, List.getElem?_map, List.getElem?_range h]
  rfl
theorem inTo_length (a b k : Nat) : (inTo a b k).length = 16 := by simp [inTo]
theorem inTo_zero (a b : Nat) : inTo a b 0 = List.replicate 16 0 := by
  apply List.ext_getElem?
  intro i
  by_cases h : i < 16
  · rw [inTo_at _ _ _ _ h, List.getElem?_replicate, if_pos h]
    congr 1
    by_cases h8 : i < 8
    · rw [if_pos h8, if_neg (by omega)]
    · rw [if_neg h8, if_neg (by omega)]
  · rw [List.getElem?_eq_none (by rw [inTo_length]; omega), List.getElem?_eq_none (by simp; omega)]
theorem inTo_all (a b : Nat) : inTo a b 8 = counterOf a b := by
  unfold inTo counterOf
  apply List.map_congr_left
  intro i hi
  have hi' : i < 16 := by simpa using hi
  by_cases h8 : i < 8
  · rw [if_pos h8, if_pos h8, if_pos h8]
  · rw [if_neg h8, if_neg h8, if_pos (by omega)]
theorem inTo_set (a b k s : Nat) (hk : k < 8) (hs : s = 8 * (7 - k)) : ((inTo a b k).set k (UInt8.ofNat (a / 2 ^ s))).set (8 + k) (UInt8.ofNat (b / 2 ^ s)) = inTo a b (k + 1) := by
  subst hs
  apply List.ext_getElem?
  intro i
  rw [List.getElem?_set, List.getElem?_set]
  by_cases h : i < 16
  · rw [inTo_at _ _ _ _ h, inTo_at _ _ _ _ h, List.length_set, inTo_length]
    by_cases h1 : 8 + k = i
    · rw [if_pos h1, if_pos (by omega), if_neg (by omega), if_pos (by omega), show 15 - i = 7 - k by omega]
    · rw [if_neg h1]
      by_cases h2 : k = i
      · subst h2
        rw [if_pos rfl, if_pos (by omega), if_pos hk, if_pos (by omega)]
      · rw [if_neg h2]
        congr 1
        by_cases h8 : i < 8
        · rw [if_pos h8, if_pos h8]
          by_cases h9 : i < k
          · rw [if_pos h9, if_pos (by omega)]
          · rw [if_neg h9, if_neg (by omega)]
        · rw [if_neg h8, if_neg h8]
          by_cases h9 : i < 8 + k
          · rw [if_pos h9, if_pos (by omega)]
          · rw [if_neg h9, if_neg (by omega)]
  · rw [List.getElem?_eq_none (l := inTo a b (k + 1)) (by rw [inTo_length]; omega), if_neg (by omega), if_neg (by omega), List.getElem?_eq_none (by rw [inTo_length]; omega)]
theorem shr_b (a s : Nat) (x : Int) (h : x = (a : Int) / 2 ^ s % 256) : x = ((UInt8.ofNat (a / 2 ^ s)).toNat : Int) := by
  rw [h]
  simp

set_option maxRecDepth 20000 in
set_option maxHeartbeats 2000000 in
theorem refStream_any (gC : Nat) (K : List UInt8) (nonce : Nat) (A : Option Addr) (l : List UInt8) (cap n : Nat) (w : World) (hK : BB w gC 47 K) (hKl : K.length = 432) (hn : l.length = n) (h : RB w w.heap.size A l cap) (hl : n ≤ 1000000) (hno : nonce < 18446744073709551616) :
    Calls Try.prog 14 #[.pointer (some ⟨gC, 0, none⟩), .int .u64 (nonce : Int), .slice A n cap] w fun e w' => ∃ v, e = .returned v ∧ OwnB w' w.heap.size 5 v (streamOf K nonce l) ∧ Below w.heap.size w w' := by
  have hgC := hK.lt
  have HK := Lib.hid hK
  have HKL := Lib.hid hKl
  have HL := Lib.hid hn
  have H := Lib.hid h
  have HNO := Lib.hid hno
  have hSl := streamOf_length K nonce l
  rw [hn] at hSl
  have HSL := Lib.hid hSl
  have hZ : (List.replicate 16 (0 : UInt8)).length = 16 := rfl
  have HZ := Lib.hid hZ
  clear hK hKl hn h hno hSl hZ
  go_enter Try.func14, Try.ntmps14
  go_wp2
  go_loopw [7, 8] (fun v i wr => ∃ (i' : Nat) (v' : Value), v' = v ∧ i = .int .i64 i' ∧ i' ≤ n ∧ OwnB wr w.heap.size 5 v ((streamOf K nonce l).take (16 * ((i' + 15) / 16))) ∧ Below w.heap.size w wr) (fun _ i _ => n - (intOf i).toNat)
  case atStart => exact ⟨0, _, rfl, rfl, by omega, OwnB.new0 _ _ _ (Nat.le_refl _), (Below.refl _ _).alloc (Nat.le_refl _) _⟩
  case round =>
    obtain ⟨i, v0, hv0, rfl, hi, hown, hbel⟩ := hrel
    subst hv0
    have HO1 := Lib.hid hown
    have HB1 := Lib.hid hbel
    have hbs := hbel.size
    clear hown hbel
    by_cases hlt : i < n
    · have hii : (i : Int) < (n : Int) := by omega
      obtain ⟨wo, rfl⟩ : ∃ wo : World, wo = wr := ⟨_, rfl⟩
      go_wp2_with (refine wpList_storeB arr16 rfl (.tmp 9) (.tmp 20) rfl (BB.new wo 22 (List.replicate 16 0)) HZ.out HZ.out rfl rfl ?_; intro w3 h3 hg3; have HI3 := Lib.hid h3; have HO3 := Lib.hid (OwnB.past (HO1.out.alloc _) hg3 (fun e => by have := (HO1.out.lt _ e).2; omega)); have HB3 := Lib.hid ((HB1.out.alloc hbs _).trans (below_of_grown hg3 hbs (by simp; omega))); clear h3 hg3)
      go_loopw [10] (fun j wr => ∃ k : Nat, j = .int .i64 k ∧ k ≤ 8 ∧ BB wr wo.heap.size 22 (inTo nonce (i / 16) k) ∧ OwnB wr w.heap.size 5 v0 ((streamOf K nonce l).take (16 * ((i + 15) / 16))) ∧ Below w.heap.size w wr) (fun j _ => 8 - (intOf j).toNat)
      case atStart => exact ⟨0, rfl, by omega, by rw [inTo_zero]; exact HI3.out, HO3.out, HB3.out⟩
      case round =>
        obtain ⟨k, rfl, hk, hI, hO, hbel⟩ := hrel
        by_cases hlk : k < 8
        · obtain ⟨k8, hk8⟩ : ∃ q, q = 8 * k := ⟨_, rfl⟩
          obtain ⟨s, hs⟩ : ∃ q, q = 56 - k8 := ⟨_, rfl⟩
          obtain ⟨q, hq⟩ : ∃ q, q = i / 16 := ⟨_, rfl⟩
          have r1 : 8 * (k : Int) = (k8 : Int) := by omega
          have r2 : 56 - (k8 : Int) = (s : Int) := by omega
          have r3 : (i : Int) / 16 = (q : Int) := by omega
          have hs56 : s ≤ 56 := by omega
          have hki : (k : Int) < 8 := by omega
          rw [← hq] at hI ⊢
          have c1 := hI.at_ (inTo_at nonce q k k (by omega))
          have c2 := hI.at_ (inTo_at nonce q k (8 + k) (by omega))
          have f1 := hI.free k
          have f2 := hI.free (8 + k)
          have hks : s = 8 * (7 - k) := by omega
          have HN := Lib.hid (fun (x y : Int) (hx : x = ((UInt8.ofNat (nonce / 2 ^ s)).toNat : Int)) (hy : y = ((UInt8.ofNat (q / 2 ^ s)).toNat : Int)) => inTo_set nonce q k s hlk hks ▸ (hI.set_ k (UInt8.ofNat (nonce / 2 ^ s)) x hx).set_ (8 + k) (UInt8.ofNat (q / 2 ^ s)) y hy)
          have HNE := Lib.hid (own_ne_BB hO hI (by decide))
          have HO := Lib.hid hO
          have HB := Lib.hid hbel
          have hqb : (q : Int) < 1000000 := by omega
          clear hI hO hbel hk8 hs hq hks
          go_wp2
          clear r1 r2 r3
          go_roundw
          case rel => exact ⟨k + 1, by go_num, by omega, HN.out _ _ (shr_b _ _ _ rfl) (shr_b _ _ _ rfl), (HO.out.past (grown_set _ _ _ _) HNE.out).past (grown_set _ _ _ _) HNE.out, (HB.out.setCell hbs _).setCell hbs _⟩
          case measure => simp [intOf]; omega
        · obtain rfl : k = 8 := by omega
          rw [inTo_all] at hI
          have HI4 := Lib.hid hI
          have HO4 := Lib.hid hO
          have HB4 := Lib.hid hbel
          have hwl := hI.lt
          clear hI hO hbel
          by_cases h16 : i % 16 = 0
          · have h16i : (i : Int) % 16 = 0 := by omega
            have hti : 16 * ((i + 15) / 16) = i := by omega
            rw [hti] at HO4
            go_wp2_with (first
              | refine wpList_loadB arr16 rfl (.tmp 9) rfl HI4.out (counterOf_length _ _) rfl ?_
              | (go_at_call 12; refine (refBlock_any gC K _ _ (HK.out.below HB4.out hgC) HKL.out (counterOf_length nonce (i / 16))).mono ?_; rintro e w5 ⟨rfl, hb5⟩; have HO5 := Lib.hid (HO4.out.below hb5); have HB5 := Lib.hid (HB4.out.trans (hb5.mono HB4.out.size)); clear hb5)
              | (refine wpList_storeB arr16 rfl (.tmp 11) (.tmp 51) rfl (BB.new w5 22 (List.replicate 16 0)) HZ.out (blockOf_length K _) rfl rfl ?_; intro w6 h6 hg6; have HG6 := Lib.hid h6; have HO6 := Lib.hid (OwnB.past (HO5.out.alloc _) hg6 (fun e => by have := (HO5.out.lt _ e).2; omega)); have HB6 := Lib.hid ((HB5.out.alloc HB5.out.size _).trans (below_of_grown hg6 HB5.out.size (by have := HB5.out.size; simp; omega))); clear h6 hg6))
            go_loopw [7, 12] (fun v j wr => ∃ (k : Nat) (v' : Value), v' = v ∧ j = .int .i64 k ∧ k ≤ 16 ∧ i + k ≤ n ∧ OwnB wr w.heap.size 5 v ((streamOf K nonce l).take (i + k)) ∧ BB wr w5.heap.size 22 (blockOf K (counterOf nonce (i / 16))) ∧ Below w.heap.size w wr) (fun _ j _ => 16 - (intOf j).toNat)
            case atStart => exact ⟨0, _, rfl, rfl, by omega, by omega, HO6.out, HG6.out, HB6.out⟩
            case round =>
              obtain ⟨k, v1, hv1, rfl, hk, hik, hO, hG, hbel⟩ := hrel
              subst hv1
              have HO := Lib.hid hO
              have HGB := Lib.hid hG
              have HB := Lib.hid hbel
              have HNE := Lib.hid (own_ne_BB hO hG (by decide))
              by_cases hlk : k < 16 ∧ i + k < n
              · obtain ⟨hk16, hin⟩ := hlk
                obtain ⟨p, hp⟩ : ∃ p, p = i + k := ⟨_, rfl⟩
                obtain ⟨b, off, rfl, hb, hc⟩ := H.out.open_ (by rw [HL.out]; omega)
                obtain ⟨u1, hu1⟩ : ∃ u, l[p]? = some u := ⟨_, List.getElem?_eq_getElem (by rw [HL.out]; omega)⟩
                obtain ⟨u2, hu2⟩ : ∃ u, (blockOf K (counterOf nonce (i / 16)))[k]? = some u := ⟨_, List.getElem?_eq_getElem (by rw [blockOf_length]; exact hk16)⟩
                have c1 := (hbel.cell (p := ⟨b, off + p, none⟩) hb).trans (hc p (by rw [HL.out]; omega))
                rw [show l[p]'(by rw [HL.out]; omega) = u1 by rw [List.getElem?_eq_getElem (by rw [HL.out]; omega)] at hu1; injection hu1] at c1
                have c2 := hG.at_ hu2
                have hx := xor_u8 u1 u2
                obtain ⟨z, hz⟩ : ∃ z, z = u1 ^^^ u2 := ⟨_, rfl⟩
                rw [← hz] at hx
                have hse : (streamOf K nonce l)[p]? = some z := by
                  rw [streamOf, List.getElem?_map, List.getElem?_range (by rw [HL.out]; omega)]
                  simp only [Option.map_some, List.getD, hu1, Option.getD_some]
                  rw [show p / 16 = i / 16 by omega, show p % 16 = k by omega, hu2, hz]
                  rfl
                have HTK := Lib.hid (show (streamOf K nonce l).take (i + (k + 1)) = (streamOf K nonce l).take (i + k) ++ [z] by rw [← Nat.add_assoc, ← hp, List.take_add_one, hse]; rfl)
                have HOL := Lib.hid (show ((streamOf K nonce l).take (i + k)).length ≤ 1000000 by rw [List.length_take, HSL.out]; omega)
                obtain ⟨S, hS⟩ : ∃ S : World → Prop, S = fun x => x.cell? ⟨b, off + p, none⟩ = some (.int .u8 (u1.toNat : Int)) ∧ x.cell? ⟨w5.heap.size, k, none⟩ = some (.int .u8 (u2.toNat : Int)) := ⟨_, rfl⟩
                have hS0 : S wr.drew := by rw [hS]; exact ⟨c1, c2⟩
                have q1 : ∀ wx, S wx → wx.cell? ⟨b, off + p, none⟩ = some (.int .u8 (u1.toNat : Int)) := fun wx h => by rw [hS] at h; exact h.1
                have q2 : ∀ wx, S wx → wx.cell? ⟨w5.heap.size, k, none⟩ = some (.int .u8 (u2.toNat : Int)) := fun wx h => by rw [hS] at h; exact h.2
                have HSal : Hid (∀ (W : World) (o : Obj), S W → S (W.alloc o)) := fun W o h => by rw [hS] at h ⊢; exact ⟨cell_alloc h.1 o, cell_alloc h.2 o⟩
                have HSgr : Hid (∀ (W W' : World), S W → W.grownBy W' v1.ownBlock → S W') := fun W W' h hg => by
                  rw [hS] at h ⊢
                  exact ⟨hg.cell h.1 (fun e => by have := (hO.lt _ e.symm).1; simp at this; omega), hg.cell h.2 (fun e => HNE.out e.symm)⟩
                have ww1 : IntKind.i64.wrap ((i : Int) + (k : Int)) = (p : Int) := by rw [IntKind.wrap_i64]; omega
                have pp1 : (i : Int) + (k : Int) = (p : Int) := by omega
                have wpp := wrapN p (by omega)
                have hpi : (p : Int) < (n : Int) := by omega
                have hki : (k : Int) < 16 := by omega
                have hpd : decide ((p : Int) < (n : Int)) = true := by simpa using hpi
                have hlen := HL.out
                clear hO hG hbel hc hu1 hu2 hz hse hS c1 c2 hp
                go_wp2
                refine helds_begin S (by kernel_rfl) hS0 (fun hS1 => ?_)
                refine helds_take (i := 0) (d := some 64) (v := ?qv16_0) (by assumption) rfl rfl (by kernel_rfl) (fun _ _ _ h => h) ?qy16_0 ?_; case qy16_0 => (refine Or.inl ⟨rfl, fun wx hS => ?_⟩; go_simp; try with_reducible rfl)
                simp only [Act.put, List.setIfInBounds_toArray, List.set_cons_zero, List.set_cons_succ]
                refine helds_take (i := 1) (d := some 65) (v := ?qv16_1) (by assumption) rfl rfl (by kernel_rfl) (fun _ _ _ h => h) ?qy16_1 ?_; case qy16_1 => (refine Or.inl ⟨rfl, fun wx hS => ?_⟩; go_simp; try with_reducible rfl)
                simp only [Act.put, List.setIfInBounds_toArray, List.set_cons_zero, List.set_cons_succ]
                refine helds_take (i := 2) (d := some 66) (v := ?qv16_2) (by assumption) rfl rfl (by kernel_rfl) (fun _ _ _ h => h) ?qy16_2 ?_; case qy16_2 => (refine Or.inl ⟨rfl, fun wx hS => ?_⟩; go_simp; try with_reducible rfl)
                simp only [Act.put, List.setIfInBounds_toArray, List.set_cons_zero, List.set_cons_succ]
                refine helds_take (i := 3) (d := some 67) (v := ?qv16_3) (by assumption) rfl rfl (by kernel_rfl) (fun _ _ _ h => h) ?qy16_3 ?_; case qy16_3 => (refine Or.inl ⟨rfl, fun wx hS => ?_⟩; go_simp; try with_reducible rfl)
                simp only [Act.put, List.setIfInBounds_toArray, List.set_cons_zero, List.set_cons_succ]
                refine helds_take (i := 4) (d := some 68) (v := ?qv16_4) (by assumption) rfl rfl (by kernel_rfl) (fun _ _ _ h => h) ?qy16_4 ?_; case qy16_4 => (refine Or.inl ⟨rfl, fun wx hS => ?_⟩; go_simp; try with_reducible rfl)
                simp only [Act.put, List.setIfInBounds_toArray, List.set_cons_zero, List.set_cons_succ]
                refine helds_take (i := 5) (d := some 69) (v := ?qv16_5) (by assumption) rfl rfl (by kernel_rfl) (fun _ _ _ h => h) ?qy16_5 ?_; case qy16_5 => (refine Or.inl ⟨rfl, fun wx hS => ?_⟩; go_simp; try with_reducible rfl)
                simp only [Act.put, List.setIfInBounds_toArray, List.set_cons_zero, List.set_cons_succ]
                refine helds_take (i := 6) (d := some 70) (v := _) (by assumption) rfl rfl (by kernel_rfl) (fun _ _ _ h => h) (yields_cell Try.underlying5 (.tmp 69) rfl rfl q1 rfl) ?_
                simp only [Act.put, List.setIfInBounds_toArray, List.set_cons_zero, List.set_cons_succ]
                refine helds_take (i := 7) (d := some 71) (v := ?qv16_7) (by assumption) rfl rfl (by kernel_rfl) (fun _ _ _ h => h) ?qy16_7 ?_; case qy16_7 => (refine Or.inl ⟨rfl, fun wx hS => ?_⟩; go_simp; try with_reducible rfl)
                simp only [Act.put, List.setIfInBounds_toArray, List.set_cons_zero, List.set_cons_succ]
                refine helds_take (i := 8) (d := some 72) (v := ?qv16_8) (by assumption) rfl rfl (by kernel_rfl) (fun _ _ _ h => h) ?qy16_8 ?_; case qy16_8 => (refine Or.inl ⟨rfl, fun wx hS => ?_⟩; go_simp; try with_reducible rfl)
                simp only [Act.put, List.setIfInBounds_toArray, List.set_cons_zero, List.set_cons_succ]
                refine helds_take (i := 9) (d := some 73) (v := _) (by assumption) rfl rfl (by kernel_rfl) (fun _ _ _ h => h) (yields_cell Try.underlying5 (.tmp 72) rfl rfl q2 rfl) ?_
                simp only [Act.put, List.setIfInBounds_toArray, List.set_cons_zero, List.set_cons_succ]
                refine helds_take (i := 10) (d := some 74) (v := ?qv16_10) (by assumption) rfl rfl (by kernel_rfl) (fun _ _ _ h => h) ?qy16_10 ?_; case qy16_10 => (refine Or.inl ⟨rfl, fun wx hS => ?_⟩; go_simp; try with_reducible rfl)
                simp only [Act.put, List.setIfInBounds_toArray, List.set_cons_zero, List.set_cons_succ]
                refine helds_one (i := 11) rfl (by kernel_rfl) rfl (fun K hK => ?_)
                go_simp
                refine hK.out _ _ (HSal.out _ _ hS1) (fun hS11 => ?_)
                clear hK K
                refine helds_one (i := 12) rfl (by kernel_rfl) rfl (fun K hK => ?_)
                refine wp_appB (d := some 76) byteT rfl (.tmp 64) (.tmp 75) rfl (OwnB.alloc (OwnB.drew HO.out) _) (RB.new1 wr.drew _ z _ rfl _ (Nat.lt_succ_self _)) rfl rfl (by have := HOL.out; simp; omega) (by have := HB.out.size; simp; omega) ?_
                intro v5 w5 hown5 hg5 hat5
                refine hK.out _ _ (HSgr.out _ _ hS11 hg5) (fun hS12 => ?_)
                have HO5' := Lib.hid hown5
                have HB5' := Lib.hid (Below.grown ((Below.drew HB.out).alloc HB.out.size _) hg5 (by have := HB.out.size; simp; omega) (fun x hx => (HO.out.lt x hx).1))
                have HG5 := Lib.hid (HGB.out.drew.alloc (.cells #[.int .u8 (z.toNat : Int)] 5) |>.far_row hg5 HNE.out)
                clear hK K hown5 hg5 hat5
                simp only [Act.put, List.setIfInBounds_toArray, List.set_cons_zero, List.set_cons_succ]
                refine helds_take (i := 13) (d := some 7) (v := ?qv16_13) (by assumption) rfl rfl (by kernel_rfl) (fun _ _ _ h => h) ?qy16_13 ?_; case qy16_13 => (refine Or.inl ⟨rfl, fun wx hS => ?_⟩; go_simp; try with_reducible rfl)
                simp only [Act.put, List.setIfInBounds_toArray, List.set_cons_zero, List.set_cons_succ]
                refine held_end (by kernel_rfl) ?_ _
                clear ww1 pp1 wpp q1 q2
                go_wp2
                go_roundw
                case rel => exact ⟨k + 1, _, rfl, by go_num, by omega, by omega, by rw [HTK.out]; exact HO5'.out, HG5.out, HB5'.out⟩
                case measure => simp [intOf]; omega
              · have hte : (streamOf K nonce l).take (i + k) = (streamOf K nonce l).take (16 * ((i + 1 + 15) / 16)) := by
                  by_cases h16k : k = 16
                  · rw [h16k, show 16 * ((i + 1 + 15) / 16) = i + 16 by omega]
                  · rw [List.take_of_length_le (by rw [HSL.out]; omega), List.take_of_length_le (by rw [HSL.out]; omega)]
                have HTE := Lib.hid hte
                clear hte hO hG hbel
                by_cases hk16 : k < 16
                · have hki : (k : Int) < 16 := by omega
                  have hin : ¬ (i : Int) + (k : Int) < (n : Int) := by omega
                  have hind : decide ((i : Int) + (k : Int) < (n : Int)) = false := by simpa using hin
                  clear hlk hk16
                  go_wp2
                  go_roundw
                  case rel => exact ⟨i + 1, _, rfl, by go_num, by omega, HTE.out ▸ HO.out, HB.out⟩
                  case measure => simp [intOf]; omega
                · have hki : ¬ (k : Int) < 16 := by omega
                  have hkd : decide ((k : Int) < 16) = false := by simpa using hki
                  clear hlk hk16
                  go_wp2
                  go_roundw
                  case rel => exact ⟨i + 1, _, rfl, by go_num, by omega, HTE.out ▸ HO.out, HB.out⟩
                  case measure => simp [intOf]; omega
          · have h16i : ((i : Int) % 16 == 0) = false := by rw [beq_eq_false_iff_ne]; omega
            have HTE := Lib.hid (show (streamOf K nonce l).take (16 * ((i + 15) / 16)) = (streamOf K nonce l).take (16 * ((i + 1 + 15) / 16)) by rw [show (i + 1 + 15) / 16 = (i + 15) / 16 by omega])
            clear h16
            go_wp2
            go_roundw
            case rel => exact ⟨i + 1, _, rfl, by go_num, by omega, HTE.out ▸ HO4.out, HB4.out⟩
            case measure => simp [intOf]; omega
    · obtain rfl : i = n := by omega
      have hte : (streamOf K nonce l).take (16 * ((i + 15) / 16)) = streamOf K nonce l := List.take_of_length_le (by rw [HSL.out]; omega)
      have hO := HO1.out
      rw [hte] at hO
      have HO9 := Lib.hid hO
      clear hO hte
      go_wp2
      go_ret
      exact ⟨_, rfl, HO9.out, HB1.out⟩
end Go.Proofs.Ytbpkaaajcimcgab
