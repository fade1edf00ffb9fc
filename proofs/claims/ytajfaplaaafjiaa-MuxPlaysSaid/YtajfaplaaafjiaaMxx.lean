/- The walk of the document's Take. -/
import Derived.Test.YtajfaplaaafjiaaMxw
namespace Go.Proofs.Ytajfaplaaafjiaa
open Go.RowKit

section
variable {P : Program} {ops : Array Oper} {Q : Exit → Act → World → Prop} {md : Region.Mode} {S : World → Prop}
theorem helds_three {i j k : Nat} {oi oj ok : Oper} {fuel : Nat} {listed : Array Bool} {a : Act} {w : World} (hr : Region.ready md ops listed = [i, j, k]) (hi : ops[i]? = some oi) (hj : ops[j]? = some oj) (hk : ops[k]? = some ok)
    (hwi : Region.wanted oi (yielded ops a.tmps) = true) (hwj : Region.wanted oj (yielded ops a.tmps) = true) (hwk : Region.wanted ok (yielded ops a.tmps) = true)
    (h1 : UpS P ops Q md S fuel listed i oi a w) (h2 : UpS P ops Q md S fuel listed j oj a w) (h3 : UpS P ops Q md S fuel listed k ok a w) : wpAnyH P md ops Q S (fuel + 1) listed a w := by
  refine wpAnyH_all hr (by simp) fun z hz => ?_
  simp only [List.mem_cons, List.not_mem_nil, or_false] at hz
  rcases hz with rfl | rfl | rfl
  · exact upS_op hi hwi h1
  · exact upS_op hj hwj h2
  · exact upS_op hk hwk h3
end
section
variable {w w' : World} {base n i : Nat} {us vs : Nat → Value} {D : Nat → Rc} {v' : Value}
theorem RX.wroteV (h : RX w base n us vs D) (g : w.grownBy w' (some n)) (hi : i < 4) {l : List UInt8} (ho : OwnB w base 5 v' l) (r' : Rc) (hc : (rfC (us i) (vs i) (D i)).set 4 v' = rfC (us i) v' r') (h1 : r'.wr = (D i).wr) (h2 : r'.cm = l) (cb : CB w' n 92 ((refC us vs D).set (i * 9 + 4) v')) :
    RX w' base n us (upd vs i v') (upd D i r') := by
  have e : refC us (upd vs i v') (upd D i r') = (refC us vs D).set (i * 9 + 4) v' := by
    conv => rhs; rw [← refC_self (us := us) (vs := vs) (D := D) hi]
    rw [over_set (by rw [refC_len]; simp [rfC]; omega) (by simp [rfC]), hc, refC_over hi, upd_self]
  refine ⟨h.hb, by rw [e]; exact cb, fun j hj => ?_, fun j hj => ?_⟩
  · have := (h.ou j hj).mod (Mod.of_grown g) (fun g hu e => h.un hj (by rw [hu, ← e]))
    by_cases e : j = i
    · subst e; rw [upd_same, h1]; exact this
    · rw [upd_ne _ _ _ e]; exact this
  · by_cases e : j = i
    · subst e
      rw [upd_same, upd_same, h2]
      exact ho.mod (Mod.of_grown g) (fun g hu e => ho.ne_cells h.cb (by decide) (by rw [hu, ← e]))
    · rw [upd_ne _ _ _ e, upd_ne _ _ _ e]
      exact (h.ov j hj).mod (Mod.of_grown g) (fun g hu e => h.vn hj (by rw [hu, ← e]))
end

set_option maxRecDepth 10000 in
set_option maxHeartbeats 8000000 in
theorem rtake_any (w : World) (base n : Nat) (us vs : Nat → Value) (D : Nat → Rc) (C : Nat → Ch) (B : Nat) (h : RX w base n us vs D) (hr : RlA C D) (hl : LimA C) (hB : RbA B D) (hBl : B ≤ 10000000) (c : Int) (_ : I64 c) (A : Option Addr) (l : List UInt8) (m cap : Nat) (hn : l.length = m) (hd : RB w w.heap.size A l cap) (hml : m ≤ 10000) :
    Calls Try.prog 34 #[.pointer (some ⟨n, 0, none⟩), .agg #[.int .i64 c, .slice A m cap]] w fun e w' => e = .returned (.int .i64 (muT C (c, l)).1) ∧ RA w w' base n us vs (muT C (c, l)).2 (B + m) := by
  have hBm : RbA (B + m) D := fun i hi => ⟨by have := (hB i hi).1; omega, by have := (hB i hi).2; omega⟩
  have g1 : w.grownBy (w.alloc (.cells #[.int .i64 c, .slice A m cap] 24)) none := grown_alloc _ _ _
  have hx1 := h.made g1
  have H := Lib.hid (RA.made h hr hBm g1)
  have G1 := Lib.hid g1
  by_cases h4 : c = 4
  case neg =>
    by_cases hb : badC c
    · have hm : muT C (c, l) = (100, C) := by unfold muT; rw [if_neg h4, if_pos hb]
      rw [hm]
      unfold badC at hb
      clear h hr hB hBm hm hd hl hx1 g1
      by_cases h0 : c < 0
      · clear hb
        go_enter Try.func34, Try.ntmps34
        go_wp2
        go_ret
        exact ⟨rfl, H.out⟩
      · have h3 : (4 : Int) < c := by omega
        clear hb
        go_enter Try.func34, Try.ntmps34
        go_wp2
        go_ret
        exact ⟨rfl, H.out⟩
    have hi4 : c.toNat < 4 := badC_lt hb
    obtain ⟨j, rfl⟩ : ∃ j : Nat, c = (j : Int) := ⟨c.toNat, by unfold badC at hb; omega⟩
    rw [Int.toNat_natCast] at hi4
    have hm : muT C ((j : Int), l) = (takeE (C j) m, upd C j (if takeE (C j) m = 0 then chTake (C j) l else C j)) := by unfold muT; rw [if_neg h4, if_neg hb]; simp only [Int.toNat_natCast, hn]
    have h0 : ¬ (j : Int) < 0 := by omega
    have h3 : ¬ (4 : Int) < (j : Int) := by omega
    have hj4 : (j : Int) < 4 := by omega
    have hrj := hr j hi4
    have c8 := hx1.at_ hi4 (k := 8) rfl
    rw [hm]
    cases hen : (D j).en with
    | true =>
      rw [hen] at c8
      have e : takeE (C j) m = 102 := by unfold takeE; rw [hrj.en, hen]; rfl
      rw [e, if_neg (by decide), upd_self]
      clear h hr hB hBm hm hd hl hx1 g1 hrj hen e hb hi4 h4
      go_enter Try.func34, Try.ntmps34
      go_wp2
      go_quiet (fail)
      go_wp2
      go_ret
      obtain ⟨a, b, c, d, f, g, k⟩ := H.out
      exact ⟨rfl, a, b, c, d.made ⟨rfl, rfl, rfl, Nat.le_refl _, fun _ _ _ => rfl⟩, f, g, k.trans (RG.of_made _ _ _ ⟨rfl, rfl, rfl, Nat.le_refl _, fun _ _ _ => rfl⟩)⟩
    | false =>
    rw [hen] at c8
    obtain ⟨V, cv, hv, hVr, -⟩ := (h.ov j hi4).shape
    have c4 := hx1.at_ hi4 (k := 4) rfl
    have c6 := hx1.at_ hi4 (k := 6) rfl
    rw [hv] at c4
    obtain ⟨hroom, hle, hsd⟩ := hrj.room (hl j hi4)
    have hBj := (hB j hi4).2
    have hroom2 : (C j).room ≤ 1024 := (hl j hi4).bounds.2.2.1
    obtain ⟨ln, hln⟩ : ∃ x, (D j).cm.length = x := ⟨_, rfl⟩
    obtain ⟨sd, hsd2⟩ : ∃ x, (D j).sd = x := ⟨_, rfl⟩
    rw [hln] at c4 hroom hle hBj hsd
    rw [hsd2] at c6 hroom hle hsd
    have hw1 : IntKind.i64.wrap ((ln : Int) - (sd : Int)) = ((ln - sd : Nat) : Int) := by simp [IntKind.wrap, IntKind.bits, IntKind.signed]; omega
    have hw2 : IntKind.i64.wrap (1024 - ((ln - sd : Nat) : Int)) = 1024 - ((ln - sd : Nat) : Int) := by simp [IntKind.wrap, IntKind.bits, IntKind.signed]; omega
    by_cases hq : (C j).room < m
    · have e : takeE (C j) m = 101 := by unfold takeE; rw [hrj.en, hen, if_neg (by decide), if_pos hq]
      rw [e, if_neg (by decide), upd_self]
      have hki : decide (1024 - ((ln - sd : Nat) : Int) < (m : Int)) = true := decide_eq_true (by omega)
      clear h hr hB hBm hm hd hl hx1 g1 hrj hen e hb hi4 h4 hv hVr hq hln hsd2 hroom hle hsd hroom2
      generalize ln - sd = q at *
      go_enter Try.func34, Try.ntmps34
      go_wp2
      go_quiet (fail)
      go_wp2
      go_quiet (fail)
      go_wp2
      go_ret
      obtain ⟨a, b, c, d, f, g, k⟩ := H.out
      exact ⟨rfl, a, b, c, d.made ⟨rfl, rfl, rfl, Nat.le_refl _, fun _ _ _ => rfl⟩, f, g, k.trans (RG.of_made _ _ _ ⟨rfl, rfl, rfl, Nat.le_refl _, fun _ _ _ => rfl⟩)⟩
    · have e : takeE (C j) m = 0 := by unfold takeE; rw [hrj.en, hen, if_neg (by decide), if_neg hq]
      rw [e, if_pos rfl]
      have hki : decide (1024 - ((ln - sd : Nat) : Int) < (m : Int)) = false := decide_eq_false (by omega)
      have HX0 := Lib.hid hx1
      have HR := Lib.hid hr
      have HBB := Lib.hid hBm
      have HJ := Lib.hid hi4
      have HV0 := Lib.hid ((hVr.below (below_rw g1 (Nat.le_refl _))).more g1.size)
      have HD0 := Lib.hid ((hd.below (below_rw g1 (Nat.le_refl _))).more g1.size)
      have LN := Lib.hid hln
      have HN := Lib.hid hn
      have BND := Lib.hid (show ln ≤ 10000000 ∧ ln ≤ B ∧ m ≤ 10000 by omega)
      have RLK := Lib.hid (show Rl (chTake (C j) l) (rcTake (D j) l) from ⟨hrj.ws, hrj.sl, hrj.cr, hrj.cl, hrj.tl, by show (C j).came ++ l = ((D j).cm ++ l).drop (D j).rd; rw [List.drop_append_of_le_length hrj.rl, ← hrj.cm], by show (D j).rd ≤ ((D j).cm ++ l).length; rw [List.length_append]; exact Nat.le_trans hrj.rl (Nat.le_add_right _ _), hrj.rd, hrj.en⟩)
      have FC := CB.new w 24 [.int .i64 (j : Int), .slice A m cap]
      have f0 := FC.at_ (i := 0) rfl
      have f1 := FC.at_ (i := 1) rfl
      have FNL0 := Lib.hid FC.lt
      clear h hr hB hBm hm hd hl hx1 g1 hrj hen e hb hi4 h4 hv hVr hq hln hsd2 hroom hle hsd hroom2 H FC
      generalize ln - sd = q at *
      go_enter Try.func34, Try.ntmps34
      go_wp2
      generalize w.alloc (.cells #[.int .i64 (j : Int), .slice A m cap] 24) = w1 at *
      go_quiet (fail)
      have GN := Lib.hid (show w1.grownBy (w1.drewN nq) none from ⟨rfl, rfl, rfl, Nat.le_refl _, fun _ _ _ => rfl⟩)
      have c4 : (w1.drewN nq).cell? ⟨n, j * 9 + 4, none⟩ = some (.slice V ln cv) := c4
      have c6 : (w1.drewN nq).cell? ⟨n, j * 9 + 6, none⟩ = some (.int .i64 sd) := c6
      have c8 : (w1.drewN nq).cell? ⟨n, j * 9 + 8, none⟩ = some (.bool false) := c8
      have f0 : (w1.drewN nq).cell? ⟨w.heap.size, 0, none⟩ = some (.int .i64 (j : Int)) := f0
      have f1 : (w1.drewN nq).cell? ⟨w.heap.size, 1, none⟩ = some (.slice A m cap) := f1
      have HX1 := Lib.hid (HX0.out.made GN.out)
      have HV1 := Lib.hid ((HV0.out.below (below_rw GN.out (Nat.le_refl _))).more GN.out.size)
      have HD1 := Lib.hid ((HD0.out.below (below_rw GN.out (Nat.le_refl _))).more GN.out.size)
      have GF1 := Lib.hid (grown_trans' G1.out GN.out)
      have FNL1 := Lib.hid (show w.heap.size < (w1.drewN nq).heap.size from FNL0.out)
      clear HX0 HV0 HD0 G1 GN FNL0
      generalize w1.drewN nq = wn at *
      go_wp2
      go_quiet (fail)
      have GN := Lib.hid (show wn.grownBy (wn.drewN nq) none from ⟨rfl, rfl, rfl, Nat.le_refl _, fun _ _ _ => rfl⟩)
      have c4 : (wn.drewN nq).cell? ⟨n, j * 9 + 4, none⟩ = some (.slice V ln cv) := c4
      have f1 : (wn.drewN nq).cell? ⟨w.heap.size, 1, none⟩ = some (.slice A m cap) := f1
      have HX := Lib.hid (HX1.out.made GN.out)
      have HV := Lib.hid ((HV1.out.below (below_rw GN.out (Nat.le_refl _))).more GN.out.size)
      have HD := Lib.hid ((HD1.out.below (below_rw GN.out (Nat.le_refl _))).more GN.out.size)
      have GF := Lib.hid (grown_trans' GF1.out GN.out)
      have FNL := Lib.hid (show w.heap.size < (wn.drewN nq).heap.size from FNL1.out)
      clear HX1 HV1 HD1 GF1 GN FNL1 c6 c8 f0
      generalize wn.drewN nq = wf at *
      have HNL := Lib.hid (show n < wf.heap.size from HX.out.cb.lt)
      go_wp2_with fail
      obtain ⟨wd, hwd⟩ : ∃ x, wf.drew = x := ⟨_, rfl⟩
      have WD := Lib.hid (show Below wf.heap.size wf wd by rw [← hwd]; exact ⟨rfl, rfl, rfl, Nat.le_refl _, fun _ _ => rfl⟩)
      have SZ := Lib.hid (show wf.heap.size ≤ wd.heap.size by rw [← hwd]; exact Nat.le_refl _)
      refine helds_begin (fun _ => True) (by kernel_rfl) trivial (fun _ => ?_)
      try rw [hwd]
      refine helds_take (i := 0) (d := some 45) (v := ?vrt_1) trivial rfl rfl (by kernel_rfl) (fun _ _ _ h => h) ?yrt_1 ?_; case yrt_1 => (refine Or.inl ⟨rfl, fun wx hS => ?_⟩; go_simp; try with_reducible rfl)
      try simp only [Act.put, List.setIfInBounds_toArray, List.set_cons_zero, List.set_cons_succ]
      refine helds_take (i := 2) (d := some 47) (v := ?vrt_2) trivial rfl rfl (by kernel_rfl) (fun _ _ _ h => h) ?yrt_2 ?_; case yrt_2 => (refine Or.inl ⟨rfl, fun wx hS => ?_⟩; go_simp; try with_reducible rfl)
      try simp only [Act.put, List.setIfInBounds_toArray, List.set_cons_zero, List.set_cons_succ]
      refine helds_take (i := 3) (d := some 48) (v := ?vrt_3) trivial rfl rfl (by kernel_rfl) (fun _ _ _ h => h) ?yrt_3 ?_; case yrt_3 => (refine Or.inl ⟨rfl, fun wx hS => ?_⟩; go_simp; try with_reducible rfl)
      try simp only [Act.put, List.setIfInBounds_toArray, List.set_cons_zero, List.set_cons_succ]
      refine helds_take (i := 4) (d := some 49) (v := ?vrt_4) trivial rfl rfl (by kernel_rfl) (fun _ _ _ h => h) ?yrt_4 ?_; case yrt_4 => (refine Or.inl ⟨rfl, fun wx hS => ?_⟩; go_simp; try with_reducible rfl)
      try simp only [Act.put, List.setIfInBounds_toArray, List.set_cons_zero, List.set_cons_succ]
      refine helds_take (i := 7) (d := some 52) (v := ?vrt_5) trivial rfl rfl (by kernel_rfl) (fun _ _ _ h => h) ?yrt_5 ?_; case yrt_5 => (refine Or.inl ⟨rfl, fun wx hS => ?_⟩; go_simp; try with_reducible rfl)
      try simp only [Act.put, List.setIfInBounds_toArray, List.set_cons_zero, List.set_cons_succ]
      refine helds_three (i := 1) (j := 5) (k := 8) (by kernel_rfl) rfl rfl rfl rfl rfl rfl (fun K hK => ?_) (fun K hK => ?_) (fun K hK => ?_)
      · refine wp_lit0D (d := some 46) (e := 5) rfl rfl Try.underlying22 byteInfo ?_
        have hb5 : Below wf.heap.size wf (wd.alloc (.cells #[] 5)) := WD.out.alloc SZ.out _
        have N5 := Lib.hid (OwnB.new0 wd wf.heap.size 5 SZ.out)
        refine hK.out _ _ trivial (fun _ => ?_)
        clear hK K
        try simp only [Act.put, List.setIfInBounds_toArray, List.set_cons_zero, List.set_cons_succ]
        refine helds_two (i := 5) (j := 8) (by kernel_rfl) rfl rfl rfl rfl (fun K hK => ?_) (fun K hK => ?_)
        · refine wp_valD (d := some 50) (v := .slice V ln cv) rfl ?_ ?_
          · have k := (hb5.cell HNL.out).trans c4
            clear hK K
            simp [execOp, go_sem, k]
            done
          refine hK.out _ _ trivial (fun _ => ?_)
          clear hK K
          try simp only [Act.put, List.setIfInBounds_toArray, List.set_cons_zero, List.set_cons_succ]
          refine helds_two (i := 6) (j := 8) (by kernel_rfl) rfl rfl rfl rfl (fun K hK => ?_) (fun K hK => ?_)
          · refine wp_appB (d := some 51) byteT rfl (.tmp 46) (.tmp 50) rfl N5.out (HV.out.below hb5) rfl (by rw [LN.out]; rfl) (by rw [LN.out]; have := BND.out; simp; omega) (Nat.le_trans SZ.out (Nat.le_of_lt (by rw [World.size_alloc]; exact Nat.lt_succ_self _))) ?_
            intro v6 w6 hown6 hg6 hat6
            rw [List.nil_append] at hown6
            have hb6 : Below wf.heap.size wf w6 := hb5.grown hg6 (Nat.le_trans SZ.out (Nat.le_of_lt (by rw [World.size_alloc]; exact Nat.lt_succ_self _))) (fun k hk => by have := (N5.out.lt k hk).1; omega)
            have O6 := Lib.hid hown6
            clear hown6 hg6 hat6
            refine hK.out _ _ trivial (fun _ => ?_)
            clear hK K
            try simp only [Act.put, List.setIfInBounds_toArray, List.set_cons_zero, List.set_cons_succ]
            refine helds_one (i := 8) rfl (by kernel_rfl) rfl (fun K hK => ?_)
            refine wp_valD (d := some 53) (v := .slice A m cap) rfl ?_ ?_
            · have k := (hb6.cell FNL.out).trans f1
              clear hK K
              simp [execOp, go_sem, k]
              done
            refine hK.out _ _ trivial (fun _ => ?_)
            clear hK K
            try simp only [Act.put, List.setIfInBounds_toArray, List.set_cons_zero, List.set_cons_succ]
            refine helds_one (i := 9) rfl (by kernel_rfl) rfl (fun K hK => ?_)
            refine wp_appB (d := some 54) byteT rfl (.tmp 51) (.tmp 53) rfl O6.out (HD.out.below hb6) rfl (by rw [HN.out]; rfl) (by rw [LN.out, HN.out]; have := BND.out; omega) hb6.size ?_
            intro v7 w7 hown7 hg7 hat7
            obtain ⟨A7, c7, hv7, -, -⟩ := hown7.shape
            have hb7 : Below wf.heap.size wf w7 := hb6.grown hg7 hb6.size (fun k hk => (O6.out.lt k hk).1)
            have O7 := Lib.hid hown7
            have G7 := Lib.hid (none_of_below hb7 (Nat.le_refl _))
            have X7 := Lib.hid (HX.out.made G7.out)
            have hv7c : v7.oneCell' = true := by rw [hv7]; rfl
            have hv7d : v7.cells = [v7].toArray := by rw [hv7]; rfl
            clear hown7 hg7 hat7
            refine hK.out _ _ trivial (fun _ => ?_)
            clear hK K
            try simp only [Act.put, List.setIfInBounds_toArray, List.set_cons_zero, List.set_cons_succ]
            refine helds_take (i := 10) (d := some 55) (v := ?vrt_6) trivial rfl rfl (by kernel_rfl) (fun _ _ _ h => h) ?yrt_6 ?_; case yrt_6 => (refine Or.inl ⟨rfl, fun wx hS => ?_⟩; go_simp; try with_reducible rfl)
            try simp only [Act.put, List.setIfInBounds_toArray, List.set_cons_zero, List.set_cons_succ]
            refine helds_take (i := 11) (d := some 56) (v := ?vrt_7) trivial rfl rfl (by kernel_rfl) (fun _ _ _ h => h) ?yrt_7 ?_; case yrt_7 => (refine Or.inl ⟨rfl, fun wx hS => ?_⟩; go_simp; try with_reducible rfl)
            try simp only [Act.put, List.setIfInBounds_toArray, List.set_cons_zero, List.set_cons_succ]
            refine helds_one (i := 12) rfl (by kernel_rfl) rfl (fun K hK => ?_)
            refine wp_storeC (d := none) (off := j * 9 + 4) (p := [v7]) szB rfl (.tmp 56) (.tmp 54) rfl v7 hv7d (fun u hu => by rw [List.mem_singleton.1 hu]; exact hv7c) X7.out.cb rfl (by rw [refC_len]; have := HJ.out; show j * 9 + 4 + 1 ≤ 36; omega) rfl rfl ?_
            intro w8 h8 g8
            rw [over_one _ _ _ (by rw [refC_len]; have := HJ.out; omega)] at h8
            have P8 := Lib.hid (X7.out.wroteV g8 HJ.out (O7.out.base_ (Nat.le_trans HX.out.hb (Nat.le_of_lt HX.out.cb.lt))) (rcTake (D j) l) rfl rfl rfl h8)
            have G8 := Lib.hid g8
            clear h8 g8
            refine hK.out _ _ trivial (fun _ => ?_)
            clear hK K
            try simp only [Act.put]
            refine held_end (by kernel_rfl) ?_ _
            go_wp2
            go_ret
            refine ⟨rfl, _, _, upd D j (rcTake (D j) l), P8.out, HR.out.upd_ RLK.out j, HBB.out.upd_ (r := rcTake (D j) l) (Nat.le_refl _) ⟨(HBB.out j HJ.out).1, ?_⟩ j, ?_, fun z hz => ?_⟩
            · show ((D j).cm ++ l).length ≤ B + m
              have := BND.out
              rw [List.length_append, HN.out, LN.out]
              omega
            · exact (Mod.made (grown_trans' GF.out G7.out)).grown G8.out (fun z hz _ => by injection hz with hz; exact hz.symm)
            · rcases rxS_updV hz with e | e
              · exact .inl e
              · exact .inr (Nat.le_trans GF.out.size (O7.out.lt z e).1)
          · refine wp_valD (d := some 53) (v := .slice A m cap) rfl ?_ ?_
            · have k := (hb5.cell FNL.out).trans f1
              clear hK K
              simp [execOp, go_sem, k]
              done
            refine hK.out _ _ trivial (fun _ => ?_)
            clear hK K
            try simp only [Act.put, List.setIfInBounds_toArray, List.set_cons_zero, List.set_cons_succ]
            refine helds_one (i := 6) rfl (by kernel_rfl) rfl (fun K hK => ?_)
            refine wp_appB (d := some 51) byteT rfl (.tmp 46) (.tmp 50) rfl N5.out (HV.out.below hb5) rfl (by rw [LN.out]; rfl) (by rw [LN.out]; have := BND.out; simp; omega) (Nat.le_trans SZ.out (Nat.le_of_lt (by rw [World.size_alloc]; exact Nat.lt_succ_self _))) ?_
            intro v6 w6 hown6 hg6 hat6
            rw [List.nil_append] at hown6
            have hb6 : Below wf.heap.size wf w6 := hb5.grown hg6 (Nat.le_trans SZ.out (Nat.le_of_lt (by rw [World.size_alloc]; exact Nat.lt_succ_self _))) (fun k hk => by have := (N5.out.lt k hk).1; omega)
            have O6 := Lib.hid hown6
            clear hown6 hg6 hat6
            refine hK.out _ _ trivial (fun _ => ?_)
            clear hK K
            try simp only [Act.put, List.setIfInBounds_toArray, List.set_cons_zero, List.set_cons_succ]
            refine helds_one (i := 9) rfl (by kernel_rfl) rfl (fun K hK => ?_)
            refine wp_appB (d := some 54) byteT rfl (.tmp 51) (.tmp 53) rfl O6.out (HD.out.below hb6) rfl (by rw [HN.out]; rfl) (by rw [LN.out, HN.out]; have := BND.out; omega) hb6.size ?_
            intro v7 w7 hown7 hg7 hat7
            obtain ⟨A7, c7, hv7, -, -⟩ := hown7.shape
            have hb7 : Below wf.heap.size wf w7 := hb6.grown hg7 hb6.size (fun k hk => (O6.out.lt k hk).1)
            have O7 := Lib.hid hown7
            have G7 := Lib.hid (none_of_below hb7 (Nat.le_refl _))
            have X7 := Lib.hid (HX.out.made G7.out)
            have hv7c : v7.oneCell' = true := by rw [hv7]; rfl
            have hv7d : v7.cells = [v7].toArray := by rw [hv7]; rfl
            clear hown7 hg7 hat7
            refine hK.out _ _ trivial (fun _ => ?_)
            clear hK K
            try simp only [Act.put, List.setIfInBounds_toArray, List.set_cons_zero, List.set_cons_succ]
            refine helds_take (i := 10) (d := some 55) (v := ?vrt_8) trivial rfl rfl (by kernel_rfl) (fun _ _ _ h => h) ?yrt_8 ?_; case yrt_8 => (refine Or.inl ⟨rfl, fun wx hS => ?_⟩; go_simp; try with_reducible rfl)
            try simp only [Act.put, List.setIfInBounds_toArray, List.set_cons_zero, List.set_cons_succ]
            refine helds_take (i := 11) (d := some 56) (v := ?vrt_9) trivial rfl rfl (by kernel_rfl) (fun _ _ _ h => h) ?yrt_9 ?_; case yrt_9 => (refine Or.inl ⟨rfl, fun wx hS => ?_⟩; go_simp; try with_reducible rfl)
            try simp only [Act.put, List.setIfInBounds_toArray, List.set_cons_zero, List.set_cons_succ]
            refine helds_one (i := 12) rfl (by kernel_rfl) rfl (fun K hK => ?_)
            refine wp_storeC (d := none) (off := j * 9 + 4) (p := [v7]) szB rfl (.tmp 56) (.tmp 54) rfl v7 hv7d (fun u hu => by rw [List.mem_singleton.1 hu]; exact hv7c) X7.out.cb rfl (by rw [refC_len]; have := HJ.out; show j * 9 + 4 + 1 ≤ 36; omega) rfl rfl ?_
            intro w8 h8 g8
            rw [over_one _ _ _ (by rw [refC_len]; have := HJ.out; omega)] at h8
            have P8 := Lib.hid (X7.out.wroteV g8 HJ.out (O7.out.base_ (Nat.le_trans HX.out.hb (Nat.le_of_lt HX.out.cb.lt))) (rcTake (D j) l) rfl rfl rfl h8)
            have G8 := Lib.hid g8
            clear h8 g8
            refine hK.out _ _ trivial (fun _ => ?_)
            clear hK K
            try simp only [Act.put]
            refine held_end (by kernel_rfl) ?_ _
            go_wp2
            go_ret
            refine ⟨rfl, _, _, upd D j (rcTake (D j) l), P8.out, HR.out.upd_ RLK.out j, HBB.out.upd_ (r := rcTake (D j) l) (Nat.le_refl _) ⟨(HBB.out j HJ.out).1, ?_⟩ j, ?_, fun z hz => ?_⟩
            · show ((D j).cm ++ l).length ≤ B + m
              have := BND.out
              rw [List.length_append, HN.out, LN.out]
              omega
            · exact (Mod.made (grown_trans' GF.out G7.out)).grown G8.out (fun z hz _ => by injection hz with hz; exact hz.symm)
            · rcases rxS_updV hz with e | e
              · exact .inl e
              · exact .inr (Nat.le_trans GF.out.size (O7.out.lt z e).1)
        · refine wp_valD (d := some 53) (v := .slice A m cap) rfl ?_ ?_
          · have k := (hb5.cell FNL.out).trans f1
            clear hK K
            simp [execOp, go_sem, k]
            done
          refine hK.out _ _ trivial (fun _ => ?_)
          clear hK K
          try simp only [Act.put, List.setIfInBounds_toArray, List.set_cons_zero, List.set_cons_succ]
          refine helds_one (i := 5) rfl (by kernel_rfl) rfl (fun K hK => ?_)
          refine wp_valD (d := some 50) (v := .slice V ln cv) rfl ?_ ?_
          · have k := (hb5.cell HNL.out).trans c4
            clear hK K
            simp [execOp, go_sem, k]
            done
          refine hK.out _ _ trivial (fun _ => ?_)
          clear hK K
          try simp only [Act.put, List.setIfInBounds_toArray, List.set_cons_zero, List.set_cons_succ]
          refine helds_one (i := 6) rfl (by kernel_rfl) rfl (fun K hK => ?_)
          refine wp_appB (d := some 51) byteT rfl (.tmp 46) (.tmp 50) rfl N5.out (HV.out.below hb5) rfl (by rw [LN.out]; rfl) (by rw [LN.out]; have := BND.out; simp; omega) (Nat.le_trans SZ.out (Nat.le_of_lt (by rw [World.size_alloc]; exact Nat.lt_succ_self _))) ?_
          intro v6 w6 hown6 hg6 hat6
          rw [List.nil_append] at hown6
          have hb6 : Below wf.heap.size wf w6 := hb5.grown hg6 (Nat.le_trans SZ.out (Nat.le_of_lt (by rw [World.size_alloc]; exact Nat.lt_succ_self _))) (fun k hk => by have := (N5.out.lt k hk).1; omega)
          have O6 := Lib.hid hown6
          clear hown6 hg6 hat6
          refine hK.out _ _ trivial (fun _ => ?_)
          clear hK K
          try simp only [Act.put, List.setIfInBounds_toArray, List.set_cons_zero, List.set_cons_succ]
          refine helds_one (i := 9) rfl (by kernel_rfl) rfl (fun K hK => ?_)
          refine wp_appB (d := some 54) byteT rfl (.tmp 51) (.tmp 53) rfl O6.out (HD.out.below hb6) rfl (by rw [HN.out]; rfl) (by rw [LN.out, HN.out]; have := BND.out; omega) hb6.size ?_
          intro v7 w7 hown7 hg7 hat7
          obtain ⟨A7, c7, hv7, -, -⟩ := hown7.shape
          have hb7 : Below wf.heap.size wf w7 := hb6.grown hg7 hb6.size (fun k hk => (O6.out.lt k hk).1)
          have O7 := Lib.hid hown7
          have G7 := Lib.hid (none_of_below hb7 (Nat.le_refl _))
          have X7 := Lib.hid (HX.out.made G7.out)
          have hv7c : v7.oneCell' = true := by rw [hv7]; rfl
          have hv7d : v7.cells = [v7].toArray := by rw [hv7]; rfl
          clear hown7 hg7 hat7
          refine hK.out _ _ trivial (fun _ => ?_)
          clear hK K
          try simp only [Act.put, List.setIfInBounds_toArray, List.set_cons_zero, List.set_cons_succ]
          refine helds_take (i := 10) (d := some 55) (v := ?vrt_10) trivial rfl rfl (by kernel_rfl) (fun _ _ _ h => h) ?yrt_10 ?_; case yrt_10 => (refine Or.inl ⟨rfl, fun wx hS => ?_⟩; go_simp; try with_reducible rfl)
          try simp only [Act.put, List.setIfInBounds_toArray, List.set_cons_zero, List.set_cons_succ]
          refine helds_take (i := 11) (d := some 56) (v := ?vrt_11) trivial rfl rfl (by kernel_rfl) (fun _ _ _ h => h) ?yrt_11 ?_; case yrt_11 => (refine Or.inl ⟨rfl, fun wx hS => ?_⟩; go_simp; try with_reducible rfl)
          try simp only [Act.put, List.setIfInBounds_toArray, List.set_cons_zero, List.set_cons_succ]
          refine helds_one (i := 12) rfl (by kernel_rfl) rfl (fun K hK => ?_)
          refine wp_storeC (d := none) (off := j * 9 + 4) (p := [v7]) szB rfl (.tmp 56) (.tmp 54) rfl v7 hv7d (fun u hu => by rw [List.mem_singleton.1 hu]; exact hv7c) X7.out.cb rfl (by rw [refC_len]; have := HJ.out; show j * 9 + 4 + 1 ≤ 36; omega) rfl rfl ?_
          intro w8 h8 g8
          rw [over_one _ _ _ (by rw [refC_len]; have := HJ.out; omega)] at h8
          have P8 := Lib.hid (X7.out.wroteV g8 HJ.out (O7.out.base_ (Nat.le_trans HX.out.hb (Nat.le_of_lt HX.out.cb.lt))) (rcTake (D j) l) rfl rfl rfl h8)
          have G8 := Lib.hid g8
          clear h8 g8
          refine hK.out _ _ trivial (fun _ => ?_)
          clear hK K
          try simp only [Act.put]
          refine held_end (by kernel_rfl) ?_ _
          go_wp2
          go_ret
          refine ⟨rfl, _, _, upd D j (rcTake (D j) l), P8.out, HR.out.upd_ RLK.out j, HBB.out.upd_ (r := rcTake (D j) l) (Nat.le_refl _) ⟨(HBB.out j HJ.out).1, ?_⟩ j, ?_, fun z hz => ?_⟩
          · show ((D j).cm ++ l).length ≤ B + m
            have := BND.out
            rw [List.length_append, HN.out, LN.out]
            omega
          · exact (Mod.made (grown_trans' GF.out G7.out)).grown G8.out (fun z hz _ => by injection hz with hz; exact hz.symm)
          · rcases rxS_updV hz with e | e
            · exact .inl e
            · exact .inr (Nat.le_trans GF.out.size (O7.out.lt z e).1)
      · refine wp_valD (d := some 50) (v := .slice V ln cv) rfl ?_ ?_
        · have k := (WD.out.cell HNL.out).trans c4
          clear hK K
          simp [execOp, go_sem, k]
          done
        refine hK.out _ _ trivial (fun _ => ?_)
        clear hK K
        try simp only [Act.put, List.setIfInBounds_toArray, List.set_cons_zero, List.set_cons_succ]
        refine helds_two (i := 1) (j := 8) (by kernel_rfl) rfl rfl rfl rfl (fun K hK => ?_) (fun K hK => ?_)
        · refine wp_lit0D (d := some 46) (e := 5) rfl rfl Try.underlying22 byteInfo ?_
          have hb5 : Below wf.heap.size wf (wd.alloc (.cells #[] 5)) := WD.out.alloc SZ.out _
          have N5 := Lib.hid (OwnB.new0 wd wf.heap.size 5 SZ.out)
          refine hK.out _ _ trivial (fun _ => ?_)
          clear hK K
          try simp only [Act.put, List.setIfInBounds_toArray, List.set_cons_zero, List.set_cons_succ]
          refine helds_two (i := 6) (j := 8) (by kernel_rfl) rfl rfl rfl rfl (fun K hK => ?_) (fun K hK => ?_)
          · refine wp_appB (d := some 51) byteT rfl (.tmp 46) (.tmp 50) rfl N5.out (HV.out.below hb5) rfl (by rw [LN.out]; rfl) (by rw [LN.out]; have := BND.out; simp; omega) (Nat.le_trans SZ.out (Nat.le_of_lt (by rw [World.size_alloc]; exact Nat.lt_succ_self _))) ?_
            intro v6 w6 hown6 hg6 hat6
            rw [List.nil_append] at hown6
            have hb6 : Below wf.heap.size wf w6 := hb5.grown hg6 (Nat.le_trans SZ.out (Nat.le_of_lt (by rw [World.size_alloc]; exact Nat.lt_succ_self _))) (fun k hk => by have := (N5.out.lt k hk).1; omega)
            have O6 := Lib.hid hown6
            clear hown6 hg6 hat6
            refine hK.out _ _ trivial (fun _ => ?_)
            clear hK K
            try simp only [Act.put, List.setIfInBounds_toArray, List.set_cons_zero, List.set_cons_succ]
            refine helds_one (i := 8) rfl (by kernel_rfl) rfl (fun K hK => ?_)
            refine wp_valD (d := some 53) (v := .slice A m cap) rfl ?_ ?_
            · have k := (hb6.cell FNL.out).trans f1
              clear hK K
              simp [execOp, go_sem, k]
              done
            refine hK.out _ _ trivial (fun _ => ?_)
            clear hK K
            try simp only [Act.put, List.setIfInBounds_toArray, List.set_cons_zero, List.set_cons_succ]
            refine helds_one (i := 9) rfl (by kernel_rfl) rfl (fun K hK => ?_)
            refine wp_appB (d := some 54) byteT rfl (.tmp 51) (.tmp 53) rfl O6.out (HD.out.below hb6) rfl (by rw [HN.out]; rfl) (by rw [LN.out, HN.out]; have := BND.out; omega) hb6.size ?_
            intro v7 w7 hown7 hg7 hat7
            obtain ⟨A7, c7, hv7, -, -⟩ := hown7.shape
            have hb7 : Below wf.heap.size wf w7 := hb6.grown hg7 hb6.size (fun k hk => (O6.out.lt k hk).1)
            have O7 := Lib.hid hown7
            have G7 := Lib.hid (none_of_below hb7 (Nat.le_refl _))
            have X7 := Lib.hid (HX.out.made G7.out)
            have hv7c : v7.oneCell' = true := by rw [hv7]; rfl
            have hv7d : v7.cells = [v7].toArray := by rw [hv7]; rfl
            clear hown7 hg7 hat7
            refine hK.out _ _ trivial (fun _ => ?_)
            clear hK K
            try simp only [Act.put, List.setIfInBounds_toArray, List.set_cons_zero, List.set_cons_succ]
            refine helds_take (i := 10) (d := some 55) (v := ?vrt_12) trivial rfl rfl (by kernel_rfl) (fun _ _ _ h => h) ?yrt_12 ?_; case yrt_12 => (refine Or.inl ⟨rfl, fun wx hS => ?_⟩; go_simp; try with_reducible rfl)
            try simp only [Act.put, List.setIfInBounds_toArray, List.set_cons_zero, List.set_cons_succ]
            refine helds_take (i := 11) (d := some 56) (v := ?vrt_13) trivial rfl rfl (by kernel_rfl) (fun _ _ _ h => h) ?yrt_13 ?_; case yrt_13 => (refine Or.inl ⟨rfl, fun wx hS => ?_⟩; go_simp; try with_reducible rfl)
            try simp only [Act.put, List.setIfInBounds_toArray, List.set_cons_zero, List.set_cons_succ]
            refine helds_one (i := 12) rfl (by kernel_rfl) rfl (fun K hK => ?_)
            refine wp_storeC (d := none) (off := j * 9 + 4) (p := [v7]) szB rfl (.tmp 56) (.tmp 54) rfl v7 hv7d (fun u hu => by rw [List.mem_singleton.1 hu]; exact hv7c) X7.out.cb rfl (by rw [refC_len]; have := HJ.out; show j * 9 + 4 + 1 ≤ 36; omega) rfl rfl ?_
            intro w8 h8 g8
            rw [over_one _ _ _ (by rw [refC_len]; have := HJ.out; omega)] at h8
            have P8 := Lib.hid (X7.out.wroteV g8 HJ.out (O7.out.base_ (Nat.le_trans HX.out.hb (Nat.le_of_lt HX.out.cb.lt))) (rcTake (D j) l) rfl rfl rfl h8)
            have G8 := Lib.hid g8
            clear h8 g8
            refine hK.out _ _ trivial (fun _ => ?_)
            clear hK K
            try simp only [Act.put]
            refine held_end (by kernel_rfl) ?_ _
            go_wp2
            go_ret
            refine ⟨rfl, _, _, upd D j (rcTake (D j) l), P8.out, HR.out.upd_ RLK.out j, HBB.out.upd_ (r := rcTake (D j) l) (Nat.le_refl _) ⟨(HBB.out j HJ.out).1, ?_⟩ j, ?_, fun z hz => ?_⟩
            · show ((D j).cm ++ l).length ≤ B + m
              have := BND.out
              rw [List.length_append, HN.out, LN.out]
              omega
            · exact (Mod.made (grown_trans' GF.out G7.out)).grown G8.out (fun z hz _ => by injection hz with hz; exact hz.symm)
            · rcases rxS_updV hz with e | e
              · exact .inl e
              · exact .inr (Nat.le_trans GF.out.size (O7.out.lt z e).1)
          · refine wp_valD (d := some 53) (v := .slice A m cap) rfl ?_ ?_
            · have k := (hb5.cell FNL.out).trans f1
              clear hK K
              simp [execOp, go_sem, k]
              done
            refine hK.out _ _ trivial (fun _ => ?_)
            clear hK K
            try simp only [Act.put, List.setIfInBounds_toArray, List.set_cons_zero, List.set_cons_succ]
            refine helds_one (i := 6) rfl (by kernel_rfl) rfl (fun K hK => ?_)
            refine wp_appB (d := some 51) byteT rfl (.tmp 46) (.tmp 50) rfl N5.out (HV.out.below hb5) rfl (by rw [LN.out]; rfl) (by rw [LN.out]; have := BND.out; simp; omega) (Nat.le_trans SZ.out (Nat.le_of_lt (by rw [World.size_alloc]; exact Nat.lt_succ_self _))) ?_
            intro v6 w6 hown6 hg6 hat6
            rw [List.nil_append] at hown6
            have hb6 : Below wf.heap.size wf w6 := hb5.grown hg6 (Nat.le_trans SZ.out (Nat.le_of_lt (by rw [World.size_alloc]; exact Nat.lt_succ_self _))) (fun k hk => by have := (N5.out.lt k hk).1; omega)
            have O6 := Lib.hid hown6
            clear hown6 hg6 hat6
            refine hK.out _ _ trivial (fun _ => ?_)
            clear hK K
            try simp only [Act.put, List.setIfInBounds_toArray, List.set_cons_zero, List.set_cons_succ]
            refine helds_one (i := 9) rfl (by kernel_rfl) rfl (fun K hK => ?_)
            refine wp_appB (d := some 54) byteT rfl (.tmp 51) (.tmp 53) rfl O6.out (HD.out.below hb6) rfl (by rw [HN.out]; rfl) (by rw [LN.out, HN.out]; have := BND.out; omega) hb6.size ?_
            intro v7 w7 hown7 hg7 hat7
            obtain ⟨A7, c7, hv7, -, -⟩ := hown7.shape
            have hb7 : Below wf.heap.size wf w7 := hb6.grown hg7 hb6.size (fun k hk => (O6.out.lt k hk).1)
            have O7 := Lib.hid hown7
            have G7 := Lib.hid (none_of_below hb7 (Nat.le_refl _))
            have X7 := Lib.hid (HX.out.made G7.out)
            have hv7c : v7.oneCell' = true := by rw [hv7]; rfl
            have hv7d : v7.cells = [v7].toArray := by rw [hv7]; rfl
            clear hown7 hg7 hat7
            refine hK.out _ _ trivial (fun _ => ?_)
            clear hK K
            try simp only [Act.put, List.setIfInBounds_toArray, List.set_cons_zero, List.set_cons_succ]
            refine helds_take (i := 10) (d := some 55) (v := ?vrt_14) trivial rfl rfl (by kernel_rfl) (fun _ _ _ h => h) ?yrt_14 ?_; case yrt_14 => (refine Or.inl ⟨rfl, fun wx hS => ?_⟩; go_simp; try with_reducible rfl)
            try simp only [Act.put, List.setIfInBounds_toArray, List.set_cons_zero, List.set_cons_succ]
            refine helds_take (i := 11) (d := some 56) (v := ?vrt_15) trivial rfl rfl (by kernel_rfl) (fun _ _ _ h => h) ?yrt_15 ?_; case yrt_15 => (refine Or.inl ⟨rfl, fun wx hS => ?_⟩; go_simp; try with_reducible rfl)
            try simp only [Act.put, List.setIfInBounds_toArray, List.set_cons_zero, List.set_cons_succ]
            refine helds_one (i := 12) rfl (by kernel_rfl) rfl (fun K hK => ?_)
            refine wp_storeC (d := none) (off := j * 9 + 4) (p := [v7]) szB rfl (.tmp 56) (.tmp 54) rfl v7 hv7d (fun u hu => by rw [List.mem_singleton.1 hu]; exact hv7c) X7.out.cb rfl (by rw [refC_len]; have := HJ.out; show j * 9 + 4 + 1 ≤ 36; omega) rfl rfl ?_
            intro w8 h8 g8
            rw [over_one _ _ _ (by rw [refC_len]; have := HJ.out; omega)] at h8
            have P8 := Lib.hid (X7.out.wroteV g8 HJ.out (O7.out.base_ (Nat.le_trans HX.out.hb (Nat.le_of_lt HX.out.cb.lt))) (rcTake (D j) l) rfl rfl rfl h8)
            have G8 := Lib.hid g8
            clear h8 g8
            refine hK.out _ _ trivial (fun _ => ?_)
            clear hK K
            try simp only [Act.put]
            refine held_end (by kernel_rfl) ?_ _
            go_wp2
            go_ret
            refine ⟨rfl, _, _, upd D j (rcTake (D j) l), P8.out, HR.out.upd_ RLK.out j, HBB.out.upd_ (r := rcTake (D j) l) (Nat.le_refl _) ⟨(HBB.out j HJ.out).1, ?_⟩ j, ?_, fun z hz => ?_⟩
            · show ((D j).cm ++ l).length ≤ B + m
              have := BND.out
              rw [List.length_append, HN.out, LN.out]
              omega
            · exact (Mod.made (grown_trans' GF.out G7.out)).grown G8.out (fun z hz _ => by injection hz with hz; exact hz.symm)
            · rcases rxS_updV hz with e | e
              · exact .inl e
              · exact .inr (Nat.le_trans GF.out.size (O7.out.lt z e).1)
        · refine wp_valD (d := some 53) (v := .slice A m cap) rfl ?_ ?_
          · have k := (WD.out.cell FNL.out).trans f1
            clear hK K
            simp [execOp, go_sem, k]
            done
          refine hK.out _ _ trivial (fun _ => ?_)
          clear hK K
          try simp only [Act.put, List.setIfInBounds_toArray, List.set_cons_zero, List.set_cons_succ]
          refine helds_one (i := 1) rfl (by kernel_rfl) rfl (fun K hK => ?_)
          refine wp_lit0D (d := some 46) (e := 5) rfl rfl Try.underlying22 byteInfo ?_
          have hb5 : Below wf.heap.size wf (wd.alloc (.cells #[] 5)) := WD.out.alloc SZ.out _
          have N5 := Lib.hid (OwnB.new0 wd wf.heap.size 5 SZ.out)
          refine hK.out _ _ trivial (fun _ => ?_)
          clear hK K
          try simp only [Act.put, List.setIfInBounds_toArray, List.set_cons_zero, List.set_cons_succ]
          refine helds_one (i := 6) rfl (by kernel_rfl) rfl (fun K hK => ?_)
          refine wp_appB (d := some 51) byteT rfl (.tmp 46) (.tmp 50) rfl N5.out (HV.out.below hb5) rfl (by rw [LN.out]; rfl) (by rw [LN.out]; have := BND.out; simp; omega) (Nat.le_trans SZ.out (Nat.le_of_lt (by rw [World.size_alloc]; exact Nat.lt_succ_self _))) ?_
          intro v6 w6 hown6 hg6 hat6
          rw [List.nil_append] at hown6
          have hb6 : Below wf.heap.size wf w6 := hb5.grown hg6 (Nat.le_trans SZ.out (Nat.le_of_lt (by rw [World.size_alloc]; exact Nat.lt_succ_self _))) (fun k hk => by have := (N5.out.lt k hk).1; omega)
          have O6 := Lib.hid hown6
          clear hown6 hg6 hat6
          refine hK.out _ _ trivial (fun _ => ?_)
          clear hK K
          try simp only [Act.put, List.setIfInBounds_toArray, List.set_cons_zero, List.set_cons_succ]
          refine helds_one (i := 9) rfl (by kernel_rfl) rfl (fun K hK => ?_)
          refine wp_appB (d := some 54) byteT rfl (.tmp 51) (.tmp 53) rfl O6.out (HD.out.below hb6) rfl (by rw [HN.out]; rfl) (by rw [LN.out, HN.out]; have := BND.out; omega) hb6.size ?_
          intro v7 w7 hown7 hg7 hat7
          obtain ⟨A7, c7, hv7, -, -⟩ := hown7.shape
          have hb7 : Below wf.heap.size wf w7 := hb6.grown hg7 hb6.size (fun k hk => (O6.out.lt k hk).1)
          have O7 := Lib.hid hown7
          have G7 := Lib.hid (none_of_below hb7 (Nat.le_refl _))
          have X7 := Lib.hid (HX.out.made G7.out)
          have hv7c : v7.oneCell' = true := by rw [hv7]; rfl
          have hv7d : v7.cells = [v7].toArray := by rw [hv7]; rfl
          clear hown7 hg7 hat7
          refine hK.out _ _ trivial (fun _ => ?_)
          clear hK K
          try simp only [Act.put, List.setIfInBounds_toArray, List.set_cons_zero, List.set_cons_succ]
          refine helds_take (i := 10) (d := some 55) (v := ?vrt_16) trivial rfl rfl (by kernel_rfl) (fun _ _ _ h => h) ?yrt_16 ?_; case yrt_16 => (refine Or.inl ⟨rfl, fun wx hS => ?_⟩; go_simp; try with_reducible rfl)
          try simp only [Act.put, List.setIfInBounds_toArray, List.set_cons_zero, List.set_cons_succ]
          refine helds_take (i := 11) (d := some 56) (v := ?vrt_17) trivial rfl rfl (by kernel_rfl) (fun _ _ _ h => h) ?yrt_17 ?_; case yrt_17 => (refine Or.inl ⟨rfl, fun wx hS => ?_⟩; go_simp; try with_reducible rfl)
          try simp only [Act.put, List.setIfInBounds_toArray, List.set_cons_zero, List.set_cons_succ]
          refine helds_one (i := 12) rfl (by kernel_rfl) rfl (fun K hK => ?_)
          refine wp_storeC (d := none) (off := j * 9 + 4) (p := [v7]) szB rfl (.tmp 56) (.tmp 54) rfl v7 hv7d (fun u hu => by rw [List.mem_singleton.1 hu]; exact hv7c) X7.out.cb rfl (by rw [refC_len]; have := HJ.out; show j * 9 + 4 + 1 ≤ 36; omega) rfl rfl ?_
          intro w8 h8 g8
          rw [over_one _ _ _ (by rw [refC_len]; have := HJ.out; omega)] at h8
          have P8 := Lib.hid (X7.out.wroteV g8 HJ.out (O7.out.base_ (Nat.le_trans HX.out.hb (Nat.le_of_lt HX.out.cb.lt))) (rcTake (D j) l) rfl rfl rfl h8)
          have G8 := Lib.hid g8
          clear h8 g8
          refine hK.out _ _ trivial (fun _ => ?_)
          clear hK K
          try simp only [Act.put]
          refine held_end (by kernel_rfl) ?_ _
          go_wp2
          go_ret
          refine ⟨rfl, _, _, upd D j (rcTake (D j) l), P8.out, HR.out.upd_ RLK.out j, HBB.out.upd_ (r := rcTake (D j) l) (Nat.le_refl _) ⟨(HBB.out j HJ.out).1, ?_⟩ j, ?_, fun z hz => ?_⟩
          · show ((D j).cm ++ l).length ≤ B + m
            have := BND.out
            rw [List.length_append, HN.out, LN.out]
            omega
          · exact (Mod.made (grown_trans' GF.out G7.out)).grown G8.out (fun z hz _ => by injection hz with hz; exact hz.symm)
          · rcases rxS_updV hz with e | e
            · exact .inl e
            · exact .inr (Nat.le_trans GF.out.size (O7.out.lt z e).1)
      · refine wp_valD (d := some 53) (v := .slice A m cap) rfl ?_ ?_
        · have k := (WD.out.cell FNL.out).trans f1
          clear hK K
          simp [execOp, go_sem, k]
          done
        refine hK.out _ _ trivial (fun _ => ?_)
        clear hK K
        try simp only [Act.put, List.setIfInBounds_toArray, List.set_cons_zero, List.set_cons_succ]
        refine helds_two (i := 1) (j := 5) (by kernel_rfl) rfl rfl rfl rfl (fun K hK => ?_) (fun K hK => ?_)
        · refine wp_lit0D (d := some 46) (e := 5) rfl rfl Try.underlying22 byteInfo ?_
          have hb5 : Below wf.heap.size wf (wd.alloc (.cells #[] 5)) := WD.out.alloc SZ.out _
          have N5 := Lib.hid (OwnB.new0 wd wf.heap.size 5 SZ.out)
          refine hK.out _ _ trivial (fun _ => ?_)
          clear hK K
          try simp only [Act.put, List.setIfInBounds_toArray, List.set_cons_zero, List.set_cons_succ]
          refine helds_one (i := 5) rfl (by kernel_rfl) rfl (fun K hK => ?_)
          refine wp_valD (d := some 50) (v := .slice V ln cv) rfl ?_ ?_
          · have k := (hb5.cell HNL.out).trans c4
            clear hK K
            simp [execOp, go_sem, k]
            done
          refine hK.out _ _ trivial (fun _ => ?_)
          clear hK K
          try simp only [Act.put, List.setIfInBounds_toArray, List.set_cons_zero, List.set_cons_succ]
          refine helds_one (i := 6) rfl (by kernel_rfl) rfl (fun K hK => ?_)
          refine wp_appB (d := some 51) byteT rfl (.tmp 46) (.tmp 50) rfl N5.out (HV.out.below hb5) rfl (by rw [LN.out]; rfl) (by rw [LN.out]; have := BND.out; simp; omega) (Nat.le_trans SZ.out (Nat.le_of_lt (by rw [World.size_alloc]; exact Nat.lt_succ_self _))) ?_
          intro v6 w6 hown6 hg6 hat6
          rw [List.nil_append] at hown6
          have hb6 : Below wf.heap.size wf w6 := hb5.grown hg6 (Nat.le_trans SZ.out (Nat.le_of_lt (by rw [World.size_alloc]; exact Nat.lt_succ_self _))) (fun k hk => by have := (N5.out.lt k hk).1; omega)
          have O6 := Lib.hid hown6
          clear hown6 hg6 hat6
          refine hK.out _ _ trivial (fun _ => ?_)
          clear hK K
          try simp only [Act.put, List.setIfInBounds_toArray, List.set_cons_zero, List.set_cons_succ]
          refine helds_one (i := 9) rfl (by kernel_rfl) rfl (fun K hK => ?_)
          refine wp_appB (d := some 54) byteT rfl (.tmp 51) (.tmp 53) rfl O6.out (HD.out.below hb6) rfl (by rw [HN.out]; rfl) (by rw [LN.out, HN.out]; have := BND.out; omega) hb6.size ?_
          intro v7 w7 hown7 hg7 hat7
          obtain ⟨A7, c7, hv7, -, -⟩ := hown7.shape
          have hb7 : Below wf.heap.size wf w7 := hb6.grown hg7 hb6.size (fun k hk => (O6.out.lt k hk).1)
          have O7 := Lib.hid hown7
          have G7 := Lib.hid (none_of_below hb7 (Nat.le_refl _))
          have X7 := Lib.hid (HX.out.made G7.out)
          have hv7c : v7.oneCell' = true := by rw [hv7]; rfl
          have hv7d : v7.cells = [v7].toArray := by rw [hv7]; rfl
          clear hown7 hg7 hat7
          refine hK.out _ _ trivial (fun _ => ?_)
          clear hK K
          try simp only [Act.put, List.setIfInBounds_toArray, List.set_cons_zero, List.set_cons_succ]
          refine helds_take (i := 10) (d := some 55) (v := ?vrt_18) trivial rfl rfl (by kernel_rfl) (fun _ _ _ h => h) ?yrt_18 ?_; case yrt_18 => (refine Or.inl ⟨rfl, fun wx hS => ?_⟩; go_simp; try with_reducible rfl)
          try simp only [Act.put, List.setIfInBounds_toArray, List.set_cons_zero, List.set_cons_succ]
          refine helds_take (i := 11) (d := some 56) (v := ?vrt_19) trivial rfl rfl (by kernel_rfl) (fun _ _ _ h => h) ?yrt_19 ?_; case yrt_19 => (refine Or.inl ⟨rfl, fun wx hS => ?_⟩; go_simp; try with_reducible rfl)
          try simp only [Act.put, List.setIfInBounds_toArray, List.set_cons_zero, List.set_cons_succ]
          refine helds_one (i := 12) rfl (by kernel_rfl) rfl (fun K hK => ?_)
          refine wp_storeC (d := none) (off := j * 9 + 4) (p := [v7]) szB rfl (.tmp 56) (.tmp 54) rfl v7 hv7d (fun u hu => by rw [List.mem_singleton.1 hu]; exact hv7c) X7.out.cb rfl (by rw [refC_len]; have := HJ.out; show j * 9 + 4 + 1 ≤ 36; omega) rfl rfl ?_
          intro w8 h8 g8
          rw [over_one _ _ _ (by rw [refC_len]; have := HJ.out; omega)] at h8
          have P8 := Lib.hid (X7.out.wroteV g8 HJ.out (O7.out.base_ (Nat.le_trans HX.out.hb (Nat.le_of_lt HX.out.cb.lt))) (rcTake (D j) l) rfl rfl rfl h8)
          have G8 := Lib.hid g8
          clear h8 g8
          refine hK.out _ _ trivial (fun _ => ?_)
          clear hK K
          try simp only [Act.put]
          refine held_end (by kernel_rfl) ?_ _
          go_wp2
          go_ret
          refine ⟨rfl, _, _, upd D j (rcTake (D j) l), P8.out, HR.out.upd_ RLK.out j, HBB.out.upd_ (r := rcTake (D j) l) (Nat.le_refl _) ⟨(HBB.out j HJ.out).1, ?_⟩ j, ?_, fun z hz => ?_⟩
          · show ((D j).cm ++ l).length ≤ B + m
            have := BND.out
            rw [List.length_append, HN.out, LN.out]
            omega
          · exact (Mod.made (grown_trans' GF.out G7.out)).grown G8.out (fun z hz _ => by injection hz with hz; exact hz.symm)
          · rcases rxS_updV hz with e | e
            · exact .inl e
            · exact .inr (Nat.le_trans GF.out.size (O7.out.lt z e).1)
        · refine wp_valD (d := some 50) (v := .slice V ln cv) rfl ?_ ?_
          · have k := (WD.out.cell HNL.out).trans c4
            clear hK K
            simp [execOp, go_sem, k]
            done
          refine hK.out _ _ trivial (fun _ => ?_)
          clear hK K
          try simp only [Act.put, List.setIfInBounds_toArray, List.set_cons_zero, List.set_cons_succ]
          refine helds_one (i := 1) rfl (by kernel_rfl) rfl (fun K hK => ?_)
          refine wp_lit0D (d := some 46) (e := 5) rfl rfl Try.underlying22 byteInfo ?_
          have hb5 : Below wf.heap.size wf (wd.alloc (.cells #[] 5)) := WD.out.alloc SZ.out _
          have N5 := Lib.hid (OwnB.new0 wd wf.heap.size 5 SZ.out)
          refine hK.out _ _ trivial (fun _ => ?_)
          clear hK K
          try simp only [Act.put, List.setIfInBounds_toArray, List.set_cons_zero, List.set_cons_succ]
          refine helds_one (i := 6) rfl (by kernel_rfl) rfl (fun K hK => ?_)
          refine wp_appB (d := some 51) byteT rfl (.tmp 46) (.tmp 50) rfl N5.out (HV.out.below hb5) rfl (by rw [LN.out]; rfl) (by rw [LN.out]; have := BND.out; simp; omega) (Nat.le_trans SZ.out (Nat.le_of_lt (by rw [World.size_alloc]; exact Nat.lt_succ_self _))) ?_
          intro v6 w6 hown6 hg6 hat6
          rw [List.nil_append] at hown6
          have hb6 : Below wf.heap.size wf w6 := hb5.grown hg6 (Nat.le_trans SZ.out (Nat.le_of_lt (by rw [World.size_alloc]; exact Nat.lt_succ_self _))) (fun k hk => by have := (N5.out.lt k hk).1; omega)
          have O6 := Lib.hid hown6
          clear hown6 hg6 hat6
          refine hK.out _ _ trivial (fun _ => ?_)
          clear hK K
          try simp only [Act.put, List.setIfInBounds_toArray, List.set_cons_zero, List.set_cons_succ]
          refine helds_one (i := 9) rfl (by kernel_rfl) rfl (fun K hK => ?_)
          refine wp_appB (d := some 54) byteT rfl (.tmp 51) (.tmp 53) rfl O6.out (HD.out.below hb6) rfl (by rw [HN.out]; rfl) (by rw [LN.out, HN.out]; have := BND.out; omega) hb6.size ?_
          intro v7 w7 hown7 hg7 hat7
          obtain ⟨A7, c7, hv7, -, -⟩ := hown7.shape
          have hb7 : Below wf.heap.size wf w7 := hb6.grown hg7 hb6.size (fun k hk => (O6.out.lt k hk).1)
          have O7 := Lib.hid hown7
          have G7 := Lib.hid (none_of_below hb7 (Nat.le_refl _))
          have X7 := Lib.hid (HX.out.made G7.out)
          have hv7c : v7.oneCell' = true := by rw [hv7]; rfl
          have hv7d : v7.cells = [v7].toArray := by rw [hv7]; rfl
          clear hown7 hg7 hat7
          refine hK.out _ _ trivial (fun _ => ?_)
          clear hK K
          try simp only [Act.put, List.setIfInBounds_toArray, List.set_cons_zero, List.set_cons_succ]
          refine helds_take (i := 10) (d := some 55) (v := ?vrt_20) trivial rfl rfl (by kernel_rfl) (fun _ _ _ h => h) ?yrt_20 ?_; case yrt_20 => (refine Or.inl ⟨rfl, fun wx hS => ?_⟩; go_simp; try with_reducible rfl)
          try simp only [Act.put, List.setIfInBounds_toArray, List.set_cons_zero, List.set_cons_succ]
          refine helds_take (i := 11) (d := some 56) (v := ?vrt_21) trivial rfl rfl (by kernel_rfl) (fun _ _ _ h => h) ?yrt_21 ?_; case yrt_21 => (refine Or.inl ⟨rfl, fun wx hS => ?_⟩; go_simp; try with_reducible rfl)
          try simp only [Act.put, List.setIfInBounds_toArray, List.set_cons_zero, List.set_cons_succ]
          refine helds_one (i := 12) rfl (by kernel_rfl) rfl (fun K hK => ?_)
          refine wp_storeC (d := none) (off := j * 9 + 4) (p := [v7]) szB rfl (.tmp 56) (.tmp 54) rfl v7 hv7d (fun u hu => by rw [List.mem_singleton.1 hu]; exact hv7c) X7.out.cb rfl (by rw [refC_len]; have := HJ.out; show j * 9 + 4 + 1 ≤ 36; omega) rfl rfl ?_
          intro w8 h8 g8
          rw [over_one _ _ _ (by rw [refC_len]; have := HJ.out; omega)] at h8
          have P8 := Lib.hid (X7.out.wroteV g8 HJ.out (O7.out.base_ (Nat.le_trans HX.out.hb (Nat.le_of_lt HX.out.cb.lt))) (rcTake (D j) l) rfl rfl rfl h8)
          have G8 := Lib.hid g8
          clear h8 g8
          refine hK.out _ _ trivial (fun _ => ?_)
          clear hK K
          try simp only [Act.put]
          refine held_end (by kernel_rfl) ?_ _
          go_wp2
          go_ret
          refine ⟨rfl, _, _, upd D j (rcTake (D j) l), P8.out, HR.out.upd_ RLK.out j, HBB.out.upd_ (r := rcTake (D j) l) (Nat.le_refl _) ⟨(HBB.out j HJ.out).1, ?_⟩ j, ?_, fun z hz => ?_⟩
          · show ((D j).cm ++ l).length ≤ B + m
            have := BND.out
            rw [List.length_append, HN.out, LN.out]
            omega
          · exact (Mod.made (grown_trans' GF.out G7.out)).grown G8.out (fun z hz _ => by injection hz with hz; exact hz.symm)
          · rcases rxS_updV hz with e | e
            · exact .inl e
            · exact .inr (Nat.le_trans GF.out.size (O7.out.lt z e).1)
  subst h4
  have hm4 : muT C ((4 : Int), l) = ctlM C l := by unfold muT; rw [if_pos rfl]
  rw [hm4]
  by_cases hm : m = 4
  case neg =>
    have hm2 : ctlM C l = (21, C) := by unfold ctlM; rw [if_pos (by rw [hn]; exact hm)]
    rw [hm2]
    have hmi : ¬ (m : Int) = 4 := by omega
    have hmb : ((m : Int) == 4) = false := beq_eq_false_iff_ne.2 hmi
    clear h hr hB hBm hd hl hx1 g1 hn hm hm2 hm4
    go_enter Try.func34, Try.ntmps34
    go_wp2
    go_ret
    exact ⟨rfl, H.out⟩
  subst hm
  obtain ⟨b, off, rfl, hb, hc⟩ := hd.open_ (by omega)
  obtain ⟨y0, y1, y2, y3, rfl⟩ : ∃ y0 y1 y2 y3, l = [y0, y1, y2, y3] := by
    match l, hn with
    | [a, b, c, d], _ => exact ⟨a, b, c, d, rfl⟩
  have be := below_rw g1 (Nat.le_refl w.heap.size)
  have k0 := (be.cell (p := ⟨b, off + 0, none⟩) hb).trans (hc 0 (by simp))
  have k1 := (be.cell (p := ⟨b, off + 1, none⟩) hb).trans (hc 1 (by simp))
  have k2 := (be.cell (p := ⟨b, off + 2, none⟩) hb).trans (hc 2 (by simp))
  have k3 := (be.cell (p := ⟨b, off + 3, none⟩) hb).trans (hc 3 (by simp))
  simp only [Nat.add_zero, List.getElem_cons_zero, List.getElem_cons_succ] at k0 k1 k2 k3
  have hcap := hd.1
  have hx0 := y0.toNat_lt
  have hx1' := y1.toNat_lt
  have hx2 := y2.toNat_lt
  have hx3 := y3.toNat_lt
  have hd2 : ctlM C [y0, y1, y2, y3] = (if 4 ≤ y1.toNat then (21, C) else if y0.toNat = 1 then (if 1024 < (C y1.toNat).credit + (y2.toNat * 256 + y3.toNat) then 101 else 0, upd C y1.toNat (if 1024 < (C y1.toNat).credit + (y2.toNat * 256 + y3.toNat) then C y1.toNat else chMore (C y1.toNat) (y2.toNat * 256 + y3.toNat))) else
      if y0.toNat = 2 ∧ y2.toNat * 256 + y3.toNat = 0 then (if (C y1.toNat).ended then 102 else 0, upd C y1.toNat (chEnd (C y1.toNat))) else (21, C)) := by
    unfold ctlM
    rw [if_neg (by simp)]
    rfl
  rw [hd2]
  clear hd2 hm4 hd hn hc hb be
  generalize y0.toNat = x0 at *
  generalize y1.toNat = x1 at *
  generalize y2.toNat = x2 at *
  generalize y3.toNat = x3 at *
  by_cases e2 : x0 < 1
  · have e2i : (x0 : Int) < 1 := by omega
    have hr2 : (if 4 ≤ x1 then ((21 : Int), C) else if x0 = 1 then (if 1024 < (C x1).credit + (x2 * 256 + x3) then 101 else 0, upd C x1 (if 1024 < (C x1).credit + (x2 * 256 + x3) then C x1 else chMore (C x1) (x2 * 256 + x3))) else if x0 = 2 ∧ x2 * 256 + x3 = 0 then (if (C x1).ended then 102 else 0, upd C x1 (chEnd (C x1))) else (21, C)) = (21, C) := by
      split
      · rfl
      · rw [if_neg (by omega), if_neg (by omega)]
    rw [hr2]
    clear h hr hB hBm hl hx1 g1 hr2 e2
    go_enter Try.func34, Try.ntmps34
    go_wp2
    go_ret
    exact ⟨rfl, H.out⟩
  by_cases e3 : 2 < x0
  · have e2i : ¬ (x0 : Int) < 1 := by omega
    have e3i : (2 : Int) < (x0 : Int) := by omega
    have hr2 : (if 4 ≤ x1 then ((21 : Int), C) else if x0 = 1 then (if 1024 < (C x1).credit + (x2 * 256 + x3) then 101 else 0, upd C x1 (if 1024 < (C x1).credit + (x2 * 256 + x3) then C x1 else chMore (C x1) (x2 * 256 + x3))) else if x0 = 2 ∧ x2 * 256 + x3 = 0 then (if (C x1).ended then 102 else 0, upd C x1 (chEnd (C x1))) else (21, C)) = (21, C) := by
      split
      · rfl
      · rw [if_neg (by omega), if_neg (by omega)]
    rw [hr2]
    clear h hr hB hBm hl hx1 g1 hr2 e2 e3
    go_enter Try.func34, Try.ntmps34
    go_wp2
    go_ret
    exact ⟨rfl, H.out⟩
  have e2i : ¬ (x0 : Int) < 1 := by omega
  have e3i : ¬ (2 : Int) < (x0 : Int) := by omega
  by_cases e4 : 4 ≤ x1
  · have e4i : (3 : Int) < (x1 : Int) := by omega
    rw [if_pos e4]
    clear h hr hB hBm hl hx1 g1 e2 e3 e4
    go_enter Try.func34, Try.ntmps34
    go_wp2
    go_ret
    exact ⟨rfl, H.out⟩
  have e4i : ¬ (3 : Int) < (x1 : Int) := by omega
  have e5i : (x1 : Int) < 4 := by omega
  rw [if_neg e4]
  have hj : x1 < 4 := by omega
  by_cases e6 : x0 = 2
  · subst e6
    rw [if_neg (by omega)]
    by_cases e7 : x2 = 0
    case neg =>
      have e7i : ¬ (x2 : Int) = 0 := by omega
      have e7b : ((x2 : Int) == 0) = false := beq_eq_false_iff_ne.2 e7i
      rw [if_neg (by omega)]
      clear h hr hB hBm hl hx1 g1 e2 e3 e4 e7
      go_enter Try.func34, Try.ntmps34
      go_wp2
      go_ret
      exact ⟨rfl, H.out⟩
    subst e7
    by_cases e8 : x3 = 0
    case neg =>
      have e7i : ¬ (x3 : Int) = 0 := by omega
      have e7b : ((x3 : Int) == 0) = false := beq_eq_false_iff_ne.2 e7i
      rw [if_neg (by omega)]
      clear h hr hB hBm hl hx1 g1 e2 e3 e4 e8
      go_enter Try.func34, Try.ntmps34
      go_wp2
      go_ret
      exact ⟨rfl, H.out⟩
    subst e8
    rw [if_pos ⟨rfl, rfl⟩]
    have hrj := hr x1 hj
    have c8 := hx1.at_ hj (k := 8) rfl
    cases hen : (D x1).en with
    | true =>
      have he : chEnd (C x1) = C x1 := by
        unfold chEnd
        rw [show C x1 = { C x1 with ended := (C x1).ended } from rfl, hrj.en, hen]
      rw [he, upd_self, hrj.en, hen]
      rw [hen] at c8
      clear h hr hB hBm hl hx1 g1 e2 e3 e4 hrj hen he hj
      go_enter Try.func34, Try.ntmps34
      go_wp2
      go_quiet (fail)
      go_wp2
      go_ret
      obtain ⟨a, b, c, d, f, g, k⟩ := H.out
      exact ⟨rfl, a, b, c, d.made ⟨rfl, rfl, rfl, Nat.le_refl _, fun _ _ _ => rfl⟩, f, g, k.trans (RG.of_made _ _ _ ⟨rfl, rfl, rfl, Nat.le_refl _, fun _ _ _ => rfl⟩)⟩
    | false =>
      rw [hrj.en, hen]
      rw [hen] at c8
      have f8 := hx1.cb.free (x1 * 9 + 8)
      have HX0 := Lib.hid hx1
      have HR := Lib.hid hr
      have HBB := Lib.hid hBm
      have HJ := Lib.hid hj
      have RLK := Lib.hid (show Rl (chEnd (C x1)) { D x1 with en := true } from ⟨hrj.ws, hrj.sl, hrj.cr, hrj.cl, hrj.tl, hrj.cm, hrj.rl, hrj.rd, rfl⟩)
      have FC := CB.new w 24 [.int .i64 4, .slice (some ⟨b, off, none⟩) 4 cap]
      have f0 := FC.at_ (i := 0) rfl
      have f1 := FC.at_ (i := 1) rfl
      clear h hr hB hBm hl hx1 g1 e2 e3 e4 hrj hen hj H FC
      go_enter Try.func34, Try.ntmps34
      go_wp2
      generalize w.alloc (.cells #[.int .i64 4, .slice (some ⟨b, off, none⟩) 4 cap] 24) = w1 at *
      go_quiet (fail)
      have GN := Lib.hid (show w1.grownBy (w1.drewN nq) none from ⟨rfl, rfl, rfl, Nat.le_refl _, fun _ _ _ => rfl⟩)
      have k0 : (w1.drewN nq).cell? ⟨b, off, none⟩ = some (.int .u8 2) := k0
      have k1 : (w1.drewN nq).cell? ⟨b, off + 1, none⟩ = some (.int .u8 (x1 : Int)) := k1
      have k2 : (w1.drewN nq).cell? ⟨b, off + 2, none⟩ = some (.int .u8 0) := k2
      have k3 : (w1.drewN nq).cell? ⟨b, off + 3, none⟩ = some (.int .u8 0) := k3
      have c8 : (w1.drewN nq).cell? ⟨n, x1 * 9 + 8, none⟩ = some (.bool false) := c8
      have f8 : (w1.drewN nq).frozen? ⟨n, x1 * 9 + 8, none⟩ = false := f8
      have HX1 := Lib.hid (HX0.out.made GN.out)
      have GF1 := Lib.hid (grown_trans' G1.out GN.out)
      clear HX0 G1 GN
      generalize w1.drewN nq = wn at *
      have PX := Lib.hid (RA.put HX1.out HR.out HBB.out HJ.out 8 (.bool true) { D x1 with en := true } (chEnd (C x1)) (by omega) rfl rfl rfl RLK.out)
      have c8 : wn.cell? ⟨n, x1 * 9 + 8, none⟩ = some (.bool false) := c8
      go_wp2
      go_ret
      refine ⟨rfl, ?_⟩
      obtain ⟨a, b, c, d, f, g, k⟩ := PX.out
      exact ⟨a, b, c, d, f, g, (RG.of_made n us vs GF1.out).trans k⟩
  · obtain rfl : x0 = 1 := by omega
    rw [if_pos rfl]
    have hrj := hr x1 hj
    have c7 := hx1.at_ hj (k := 7) rfl
    have hcr := (hl x1 hj).cr
    have hcre := hrj.cr
    rw [hcre] at hcr
    rw [hcre]
    obtain ⟨cr, hcr2⟩ : ∃ x, (D x1).cr = x := ⟨_, rfl⟩
    rw [hcr2] at c7 hcr ⊢
    obtain ⟨z, hz⟩ : ∃ x, x2 * 256 + x3 = x := ⟨_, rfl⟩
    rw [hz]
    have hwz1 : IntKind.i64.wrap (256 * (x2 : Int)) = 256 * (x2 : Int) := by simp [IntKind.wrap, IntKind.bits, IntKind.signed]; omega
    have hwz2 : IntKind.i64.wrap (256 * (x2 : Int) + (x3 : Int)) = (z : Int) := by simp [IntKind.wrap, IntKind.bits, IntKind.signed]; omega
    have hwz3 : IntKind.i64.wrap ((cr : Int) + (z : Int)) = ((cr + z : Nat) : Int) := by simp [IntKind.wrap, IntKind.bits, IntKind.signed]; omega
    by_cases hq : 1024 < cr + z
    · have hqi : (1024 : Int) < ((cr + z : Nat) : Int) := by omega
      rw [if_pos hq, if_pos hq, upd_self]
      clear h hr hB hBm hl hx1 g1 e2 e3 e4 hrj hj hcr hcre hcr2 hz hq
      generalize cr + z = s at *
      go_enter Try.func34, Try.ntmps34
      go_wp2
      go_quiet (fail)
      have k2 : ((w.alloc (.cells #[.int .i64 4, .slice (some ⟨b, off, none⟩) 4 cap] 24)).drewN nq).cell? ⟨b, off + 2, none⟩ = some (.int .u8 (x2 : Int)) := k2
      have k3 : ((w.alloc (.cells #[.int .i64 4, .slice (some ⟨b, off, none⟩) 4 cap] 24)).drewN nq).cell? ⟨b, off + 3, none⟩ = some (.int .u8 (x3 : Int)) := k3
      have k0 : ((w.alloc (.cells #[.int .i64 4, .slice (some ⟨b, off, none⟩) 4 cap] 24)).drewN nq).cell? ⟨b, off, none⟩ = some (.int .u8 1) := k0
      have c7 : ((w.alloc (.cells #[.int .i64 4, .slice (some ⟨b, off, none⟩) 4 cap] 24)).drewN nq).cell? ⟨n, x1 * 9 + 7, none⟩ = some (.int .i64 cr) := c7
      have H1 := Lib.hid (show RA w ((w.alloc (.cells #[.int .i64 4, .slice (some ⟨b, off, none⟩) 4 cap] 24)).drewN nq) base n us vs C (B + 4) from by
        obtain ⟨a, b, c, d, f, g, k⟩ := H.out
        exact ⟨a, b, c, d.made ⟨rfl, rfl, rfl, Nat.le_refl _, fun _ _ _ => rfl⟩, f, g, k.trans (RG.of_made _ _ _ ⟨rfl, rfl, rfl, Nat.le_refl _, fun _ _ _ => rfl⟩)⟩)
      generalize (w.alloc (.cells #[.int .i64 4, .slice (some ⟨b, off, none⟩) 4 cap] 24)).drewN nq = wn at *
      go_wp2
      go_quiet (fail)
      have c7 : (wn.drewN nq).cell? ⟨n, x1 * 9 + 7, none⟩ = some (.int .i64 cr) := c7
      go_wp2
      go_ret
      obtain ⟨a, b, c, d, f, g, k⟩ := H1.out
      exact ⟨rfl, a, b, c, d.made ⟨rfl, rfl, rfl, Nat.le_refl _, fun _ _ _ => rfl⟩, f, g, k.trans (RG.of_made _ _ _ ⟨rfl, rfl, rfl, Nat.le_refl _, fun _ _ _ => rfl⟩)⟩
    · have hqi : ¬ (1024 : Int) < ((cr + z : Nat) : Int) := by omega
      rw [if_neg hq, if_neg hq]
      have f7 := hx1.cb.free (x1 * 9 + 7)
      have HX0 := Lib.hid hx1
      have HR := Lib.hid hr
      have HBB := Lib.hid hBm
      have HJ := Lib.hid hj
      have HCR := Lib.hid hcr2
      have RLK := Lib.hid (show Rl (chMore (C x1) z) { D x1 with cr := cr + z } from ⟨hrj.ws, hrj.sl, by show (C x1).credit + z = cr + z; rw [hcre, hcr2], hrj.cl, hrj.tl, hrj.cm, hrj.rl, hrj.rd, hrj.en⟩)
      clear h hr hB hBm hl hx1 g1 e2 e3 e4 hrj hj hcr hcre hcr2 hz hq H
      obtain ⟨s, hs⟩ : ∃ x, cr + z = x := ⟨_, rfl⟩
      rw [hs] at hwz3 hqi RLK
      clear hs
      go_enter Try.func34, Try.ntmps34
      go_wp2
      generalize w.alloc (.cells #[.int .i64 4, .slice (some ⟨b, off, none⟩) 4 cap] 24) = w1 at *
      go_quiet (fail)
      have GN := Lib.hid (show w1.grownBy (w1.drewN nq) none from ⟨rfl, rfl, rfl, Nat.le_refl _, fun _ _ _ => rfl⟩)
      have k0 : (w1.drewN nq).cell? ⟨b, off, none⟩ = some (.int .u8 1) := k0
      have k2 : (w1.drewN nq).cell? ⟨b, off + 2, none⟩ = some (.int .u8 (x2 : Int)) := k2
      have k3 : (w1.drewN nq).cell? ⟨b, off + 3, none⟩ = some (.int .u8 (x3 : Int)) := k3
      have c7 : (w1.drewN nq).cell? ⟨n, x1 * 9 + 7, none⟩ = some (.int .i64 cr) := c7
      have HX1 := Lib.hid (HX0.out.made GN.out)
      have GF1 := Lib.hid (grown_trans' G1.out GN.out)
      clear HX0 G1 GN f7
      generalize w1.drewN nq = wm at *
      go_wp2
      go_quiet (fail)
      have GN := Lib.hid (show wm.grownBy (wm.drewN nq) none from ⟨rfl, rfl, rfl, Nat.le_refl _, fun _ _ _ => rfl⟩)
      have c7 : (wm.drewN nq).cell? ⟨n, x1 * 9 + 7, none⟩ = some (.int .i64 cr) := c7
      have HX2 := Lib.hid (HX1.out.made GN.out)
      have GF2 := Lib.hid (grown_trans' GF1.out GN.out)
      clear HX1 GF1 GN
      generalize wm.drewN nq = wn at *
      have f7 := HX2.out.cb.free (x1 * 9 + 7)
      have PX := Lib.hid (RA.put HX2.out HR.out HBB.out HJ.out 7 (.int .i64 s) { D x1 with cr := s } (chMore (C x1) z) (by omega) rfl rfl rfl RLK.out)
      go_wp2
      go_ret
      refine ⟨rfl, ?_⟩
      obtain ⟨a, b, c, d, f, g, k⟩ := PX.out
      exact ⟨a, b, c, d, f, g, (RG.of_made n us vs GF2.out).trans k⟩
end Go.Proofs.Ytajfaplaaafjiaa
