/- The document's Write. -/
import Derived.Test.YtlkchajkhplapaaGreatDoorUah
namespace Go.Proofs.YtlkchajkhplapaaGreatDoor
open Go.RowKit Go.Maps Go.WideMaps

theorem byteInfo : (Tryz.prog.info? 5).map (fun i => (i.zero, i.size, i.bytes)) = some (some (.int .u8 0), 1, 1) := by kernel_rfl
section
variable {P : Program} {w : World} {o : Oper} {d : Option Tmp} {a : Act} {K : Act → World → Prop} {Q : Exit → Act → World → Prop} {ty t e : TypeId} {n g off : Nat} {cs p : List Value}
theorem wp_storeC (hi : (P.info? ty).map (·.size) = some n) (hd : o.dst = d) (x y : Operand) (ho : o.op = .store ty x y) (v : Value) (hv : v.cells = p.toArray) (h1 : ∀ u ∈ p, u.oneCell' = true) (h : CB w g t cs) (hp : p.length = n) (hl : off + n ≤ cs.length)
    (hx : a.eval x = .pointer (some ⟨g, off, none⟩)) (hy : a.eval y = v)
    (hk : ∀ w', CB w' g t (over cs off p) → w.grownBy w' (some g) → K (a.put d undef) w') : o.wp P a w K Q := by
  subst hd
  unfold Oper.wp execOp
  simp only [ho, hx, hy, Instr.storeAt, Instr.sureAddr, Sem.run_bind, Sem.run_pure, Result.andThen_ok, run_storeC hi v hv h1 h hp hl]
  exact hk _ (h.over off p) (grown_setRow _ _ _)
theorem run_lit0 (ht : P.underlying t = some (.slice e)) (hi : (P.info? e).map (fun i => (i.zero, i.size, i.bytes)) = some (some (.int .u8 0), 1, 1)) (w : World) :
    (Instr.buildSlice t 0 #[]).run P w = .ok (.slice (some ⟨w.heap.size, 0, none⟩) 0 0) (w.alloc (.cells #[] e)) := by
  obtain ⟨i0, hi, hz0, hz1, hz2⟩ := info_parts hi
  have hsz : ∀ w, (sizeOf e).run P w = .ok 1 w := by intro w; simp [sizeOf, typeInfo, hi, hz1]
  simp [Instr.buildSlice, run_underlying ht, hsz, Instr.fill, newRow, Result.andThen]
  congr 2
  exact Array.eq_empty_of_size_eq_zero (by simp)
theorem wp_lit0D (hd : o.dst = d) (ho : o.op = .buildSlice t 0 #[]) (ht : P.underlying t = some (.slice e)) (hi : (P.info? e).map (fun i => (i.zero, i.size, i.bytes)) = some (some (.int .u8 0), 1, 1))
    (hk : K (a.put d (.slice (some ⟨w.heap.size, 0, none⟩) 0 0)) (w.alloc (.cells #[] e))) : o.wp P a w K Q := by
  subst hd
  unfold Oper.wp execOp
  simp only [ho, List.map_toArray, List.map_nil, run_lit0 ht hi w, Sem.run_bind, Result.andThen_ok, Sem.run_pure]
  exact hk
end
theorem cb_neT {w : World} {g g' : Nat} {t t' : TypeId} {cs cs' : List Value} (h : CB w g t cs) (h' : CB w g' t' cs') (ht : t ≠ t') : g ≠ g' := by
  intro e
  subst e
  have h1 := h.symm.trans h'
  injection h1 with h1
  injection h1 with _ h1
  exact ht h1
theorem fresh_grown {w w1 w2 : World} {v : Value} (hv : v = .slice (some ⟨w1.heap.size, 0, none⟩) 0 0) (h1 : w.grownBy w1 none) (h2 : (w1.alloc (.cells #[] 5)).grownBy w2 v.ownBlock) : w.grownBy w2 none := by
  refine none_rowB (grown_trans' h1 (grown_alloc w1 (.cells #[] 5) none)) h2 (fun z hz => ?_)
  rw [hv] at hz
  simp [Value.ownBlock] at hz
  have := h1.size
  omega
set_option maxRecDepth 10000 in
set_option maxHeartbeats 8000000 in
theorem rwrite_any (w : World) (rb : Nat) (v : Value) (N : List (List UInt8 × Nd)) (h : RT w rb v N) (ht : ∃ n, N.lookup [47] = some n) (who s : ByteArray) (p : List UInt8) (hp : s.data.toList = p) (hs : p.length ≤ 100000) (A : Option Addr) (l : List UInt8) (k cap0 : Nat) (hk : l.length = k) (hr : RB w w.heap.size A l cap0) (m : Int) :
    Calls Tryz.prog 26 #[.pointer (some ⟨rb, 0, none⟩), .string who, .string s, .slice A k cap0, .int .i64 m] w fun e w' => e = .returned (.int .i64 (writeC N who p k m)) ∧ RDone w.heap.size w w' rb v N (writeA N who p l m) := by
  have CA := rcome_any w rb v N h who s p hp hs
  have HT := Lib.hid h
  obtain rfl := bytes_of hp
  obtain ⟨c, hcc⟩ : ∃ c, (comeR N who p).2 = c := ⟨_, rfl⟩
  rw [hcc] at CA
  have CC := Lib.hid CA
  have HRB := Lib.hid hr
  have HKL := Lib.hid hk
  clear CA
  by_cases h0 : c ≠ 0
  · have hR : writeC N who p k m = c := by unfold writeC; rw [hcc, if_pos h0]
    have hcq : (c == 0) = false := beq_eq_false_iff_ne.2 h0
    have HA := Lib.hid (show writeA N who p l m = .stay by unfold writeA; rw [hk, hR, if_neg h0])
    rw [hR, HA.out]
    clear hcc hp hs hR h ht hr hk
    go_enter Tryz.func26, Tryz.ntmps26
    go_wp2_with (go_at_call 53; refine CC.out.mono ?_; rintro e w1 ⟨rfl, g1⟩; have G1 := Lib.hid g1; clear g1)
    go_ret
    exact ⟨rfl, RDone.stay HT.out G1.out⟩
  have h0' : c = 0 := Classical.byContradiction h0
  subst h0'
  by_cases h1 : 0 ≤ m ∧ m ≤ 63
  · have h1a : ¬ m < 0 := by omega
    have h1b : ¬ 63 < m := by omega
    by_cases h2 : 1000 < k
    · have hR : writeC N who p k m = 23 := by unfold writeC; rw [hcc, if_neg (by decide), if_neg (by simpa using h1), if_pos h2]
      have HA := Lib.hid (show writeA N who p l m = .stay by unfold writeA; rw [hk, hR, if_neg (by decide)])
      have h2i : (1000 : Int) < (k : Int) := by omega
      rw [hR, HA.out]
      clear hcc hp hs hR h ht hr hk h0 h1 h2
      go_enter Tryz.func26, Tryz.ntmps26
      go_wp2_with (go_at_call 53; refine CC.out.mono ?_; rintro e w1 ⟨rfl, g1⟩; have G1 := Lib.hid g1; clear g1)
      go_ret
      exact ⟨rfl, RDone.stay HT.out G1.out⟩
    have h2i : ¬ (1000 : Int) < (k : Int) := by omega
    have H2 := Lib.hid (show k ≤ 1000 by omega)
    have hRw : writeC N who p k m = match N.lookup p with
        | none => addC N who p
        | some n => if n.dir = true then 113 else if mayOk who 2 n.owner n.mode = false then 114 else 0 := by unfold writeC; rw [hcc, if_neg (by decide), if_neg (by simpa using h1), if_neg h2]; cases N.lookup p <;> rfl
    obtain ⟨x, rfl⟩ : ∃ x : Nat, m = (x : Int) := ⟨m.toNat, by omega⟩
    have HX64 := Lib.hid (show x < 64 by omega)
    cases hl : N.lookup p with
    | none =>
      have hR : writeC N who p k x = addC N who p := by rw [hRw, hl]
      obtain ⟨a, b, n, hab, hb, hpo, hn, -⟩ := parent_in hcc ht hl
      have hR2 := addC_of (M := N) (who := who) (p := p) hn
      have HL := Lib.hid hl
      cases hmy : mayOk who 2 n.owner n.mode with
      | false =>
        rw [hmy, if_pos rfl] at hR2
        have HA := Lib.hid (show writeA N who p l x = .stay by unfold writeA; rw [hk, hR, hR2, if_neg (by decide)])
        have PU := Lib.hid (fun W dv (hW : RT W rb v N) (ho : OwnB W 0 5 dv l) => rput_no W rb v N hW p a b hab hb (show p.length ≤ 1000000 by omega) ⟨0, false, who, x, dv⟩ n hn 114 (.inl ⟨hmy, rfl⟩))
        rw [hR, hR2, HA.out]
        clear hcc hp hs hR hR2 hl h0 h1 h2 h ht hab hb hpo hn hmy hr hk hRw
        go_enter Tryz.func26, Tryz.ntmps26
        go_wp2_with (first
          | (go_at_call 53; refine CC.out.mono ?_; rintro e w1 ⟨rfl, g1⟩; have G1 := Lib.hid g1; clear g1)
          | (go_at_call 54; refine (rat_no _ rb v N (HT.out.far G1.out (by simp) (by simp) (by simp)) p HL.out).mono ?_; rintro e w2 ⟨rfl, rfl⟩)
          | (at_builtin
             refine wpList_appB byteT rfl (.tmp 38) (.tmp 39) rfl (OwnB.new0 w2 w.heap.size 5 G1.out.size) (((HRB.out.below (below_of_none G1.out)).alloc (G1.out.size) _)) (by first | rfl | go_simp) (by rw [HKL.out]; first | rfl | go_simp) (by simp; have := H2.out; have := HKL.out; omega) (by rw [World.size_alloc]; have := G1.out.size; omega) ?_
             intro v5 w5 o5 g5 _ a5
             rw [List.nil_append] at o5
             have G5 := Lib.hid (fresh_grown rfl G1.out g5)
             obtain ⟨A5, c5, hv5, -, -⟩ := o5.shape
             rw [HKL.out] at hv5
             subst hv5
             have O5 := Lib.hid (OwnB.base_ o5 (Nat.zero_le _))
             have P5 := Lib.hid o5
             clear o5 g5 a5)
          | (go_at_call 62; refine (PU.out w5 (.slice A5 k c5) (HT.out.far G5.out (by simp) (by simp) (by simp)) O5.out).mono ?_; rintro e w6 ⟨rfl, g6⟩; have G6 := Lib.hid g6; clear g6))
        go_ret
        exact ⟨rfl, RDone.stay HT.out (grown_trans' G5.out G6.out)⟩
      | true =>
        rw [hmy, if_neg (by decide)] at hR2
        by_cases hf : 64 ≤ N.length
        · rw [if_pos hf] at hR2
          have HA := Lib.hid (show writeA N who p l x = .stay by unfold writeA; rw [hk, hR, hR2, if_neg (by decide)])
          have PU := Lib.hid (fun W dv (hW : RT W rb v N) (ho : OwnB W 0 5 dv l) => rput_no W rb v N hW p a b hab hb (show p.length ≤ 1000000 by omega) ⟨0, false, who, x, dv⟩ n hn 2 (.inr ⟨hmy, hf, rfl⟩))
          rw [hR, hR2, HA.out]
          clear hcc hp hs hR hR2 hl h0 h1 h2 h ht hab hb hpo hn hmy hr hk hRw hf
          go_enter Tryz.func26, Tryz.ntmps26
          go_wp2_with (first
            | (go_at_call 53; refine CC.out.mono ?_; rintro e w1 ⟨rfl, g1⟩; have G1 := Lib.hid g1; clear g1)
            | (go_at_call 54; refine (rat_no _ rb v N (HT.out.far G1.out (by simp) (by simp) (by simp)) p HL.out).mono ?_; rintro e w2 ⟨rfl, rfl⟩)
            | (at_builtin
               refine wpList_appB byteT rfl (.tmp 38) (.tmp 39) rfl (OwnB.new0 w2 w.heap.size 5 G1.out.size) (((HRB.out.below (below_of_none G1.out)).alloc (G1.out.size) _)) (by first | rfl | go_simp) (by rw [HKL.out]; first | rfl | go_simp) (by simp; have := H2.out; have := HKL.out; omega) (by rw [World.size_alloc]; have := G1.out.size; omega) ?_
               intro v5 w5 o5 g5 _ a5
               rw [List.nil_append] at o5
               have G5 := Lib.hid (fresh_grown rfl G1.out g5)
               obtain ⟨A5, c5, hv5, -, -⟩ := o5.shape
               rw [HKL.out] at hv5
               subst hv5
               have O5 := Lib.hid (OwnB.base_ o5 (Nat.zero_le _))
               have P5 := Lib.hid o5
               clear o5 g5 a5)
            | (go_at_call 62; refine (PU.out w5 (.slice A5 k c5) (HT.out.far G5.out (by simp) (by simp) (by simp)) O5.out).mono ?_; rintro e w6 ⟨rfl, g6⟩; have G6 := Lib.hid g6; clear g6))
          go_ret
          exact ⟨rfl, RDone.stay HT.out (grown_trans' G5.out G6.out)⟩
        · rw [if_neg hf] at hR2
          have HA := Lib.hid (show writeA N who p l x = .put p false who x l by unfold writeA; rw [hk, hR, hR2, if_pos rfl, hl]; rfl)
          have PU := Lib.hid (fun W dv (hW : RT W rb v N) (ho : OwnB W 0 5 dv l) => rput_ok W rb v N hW p a b hab hb (show p.length ≤ 1000000 by omega) ⟨0, false, who, x, dv⟩ n hn hmy (by omega) hl l ho (by have := H2.out; have := HKL.out; omega) HX64.out)
          rw [hR, hR2, HA.out]
          clear hcc hp hs hR hR2 hl h0 h1 h2 h ht hab hb hpo hn hmy hr hk hRw hf
          go_enter Tryz.func26, Tryz.ntmps26
          go_wp2_with (first
            | (go_at_call 53; refine CC.out.mono ?_; rintro e w1 ⟨rfl, g1⟩; have G1 := Lib.hid g1; clear g1)
            | (go_at_call 54; refine (rat_no _ rb v N (HT.out.far G1.out (by simp) (by simp) (by simp)) p HL.out).mono ?_; rintro e w2 ⟨rfl, rfl⟩)
            | (at_builtin
               refine wpList_appB byteT rfl (.tmp 38) (.tmp 39) rfl (OwnB.new0 w2 w.heap.size 5 G1.out.size) (((HRB.out.below (below_of_none G1.out)).alloc (G1.out.size) _)) (by first | rfl | go_simp) (by rw [HKL.out]; first | rfl | go_simp) (by simp; have := H2.out; have := HKL.out; omega) (by rw [World.size_alloc]; have := G1.out.size; omega) ?_
               intro v5 w5 o5 g5 _ a5
               rw [List.nil_append] at o5
               have G5 := Lib.hid (fresh_grown rfl G1.out g5)
               obtain ⟨A5, c5, hv5, -, -⟩ := o5.shape
               rw [HKL.out] at hv5
               subst hv5
               have O5 := Lib.hid (OwnB.base_ o5 (Nat.zero_le _))
               have P5 := Lib.hid o5
               clear o5 g5 a5)
            | (go_at_call 62; refine (PU.out w5 (.slice A5 k c5) (HT.out.far G5.out (by simp) (by simp) (by simp)) O5.out).mono ?_; rintro e w6 ⟨rfl, g6⟩; have G6 := Lib.hid g6; clear g6))
          go_ret
          exact ⟨rfl, RDone.back G5.out (RDone.put (HT.out.far G5.out (by simp) (by simp) (by simp)) HL.out P5.out G6.out)⟩
    | some n =>
      obtain ⟨j, hj, hjx⟩ := look_some h.nodup hl
      obtain ⟨g, cap, cs, hv, -, hcb, hnc, hcz, htk, -⟩ := rowX_open h.row (by have := (List.getElem?_eq_some_iff.1 hjx).1; rw [List.length_map]; omega)
      rw [List.length_map] at hv hnc htk
      have hjn := (List.getElem?_eq_some_iff.1 hjx).1
      obtain ⟨nn, hnn⟩ : ∃ nn, N.length = nn := ⟨_, rfl⟩
      have hjc : 5 * j + 4 < cs.length := by rw [hcz]; have := Nat.mul_le_mul_right 5 (show j + 1 ≤ cap by omega); omega
      have htop := h.top
      rw [hv, hnn] at htop
      have HX := Lib.hid hjx
      have HV := Lib.hid hv
      have HCB := Lib.hid hcb
      have HNN := Lib.hid hnn
      have HJC := Lib.hid hjc
      have HTP := Lib.hid htop
      have HJ := Lib.hid hj
      have HE := Lib.hid (fun (q : Nat) (u : Value) (hq : (ndC (p, n))[q]? = some u) => (show cs[5 * j + q]? = some u from by
        have hq5 : q < 5 := (List.getElem?_eq_some_iff.1 hq).1
        have h1 := flatten_at (N.map ndC) j (ndC (p, n)) q h.row.2 (by rw [List.getElem?_map, hjx]; rfl) hq5
        rw [← htk, List.getElem?_take, if_pos (by have := Nat.mul_le_mul_right 5 (show j + 1 ≤ N.length by omega); omega)] at h1
        rw [h1, hq]))
      have hji : (j : Int) < (nn : Int) := by omega
      have hj0 : ¬ (j : Int) < 0 := by omega
      have hn64 : nn ≤ 64 := by rw [← hnn]; exact h.len
      have HLN := Lib.hid (nodup_lookup h.nodup (List.mem_of_getElem? hjx))
      have hR : writeC N who p k x = if n.dir = true then 113 else if mayOk who 2 n.owner n.mode = false then 114 else 0 := by rw [hRw, hl]
      have HMO := Lib.hid (h.mode _ (List.mem_of_getElem? hjx))
      cases hd : n.dir with
      | true =>
        rw [if_pos hd] at hR
        have HA := Lib.hid (show writeA N who p l x = .stay by unfold writeA; rw [hk, hR, if_neg (by decide)])
        have HD := Lib.hid hd
        rw [hR, HA.out]
        clear hcc hp hs hR hl h0 h1 h2 h ht hr hk hRw hv hcb hnc hcz htk hjn hnn hjc htop hj hjx hd
        go_enter Tryz.func26, Tryz.ntmps26
        go_wp2_with (first
          | (go_at_call 53; refine CC.out.mono ?_; rintro e w1 ⟨rfl, g1⟩; have G1 := Lib.hid g1; clear g1)
          | (go_at_call 54; refine (rat_yes _ rb v N (HT.out.far G1.out (by simp) (by simp) (by simp)) p j HJ.out).mono ?_; rintro e w2 ⟨rfl, rfl⟩
             have HC1 := Lib.hid (HCB.out.kept G1.out)
             have HT1 := Lib.hid (HTP.out.kept G1.out)
             have q0 := HT1.out.at_ (i := 0) (v := .slice (some ⟨g, 0, none⟩) nn cap) rfl
             have q1 := HC1.out.at_ (i := j * 5 + 1) (v := .bool true) (by rw [← mul5]; exact HE.out 1 _ (by show some (Value.bool n.dir) = _; rw [HD.out]))))
        go_ret
        exact ⟨rfl, RDone.stay HT.out G1.out⟩
      | false =>
        rw [if_neg (by rw [hd]; decide)] at hR
        have HD := Lib.hid hd
        cases hmy : mayOk who 2 n.owner n.mode with
        | false =>
          rw [hmy, if_pos rfl] at hR
          have HMY := Lib.hid hmy
          have HA := Lib.hid (show writeA N who p l x = .stay by unfold writeA; rw [hk, hR, if_neg (by decide)])
          rw [hR, HA.out]
          clear hcc hp hs hR hl h0 h1 h2 h ht hr hk hRw hv hcb hnc hcz htk hjn hnn hjc htop hj hjx hd hmy
          go_enter Tryz.func26, Tryz.ntmps26
          go_wp2_with (first
            | (go_at_call 53; refine CC.out.mono ?_; rintro e w1 ⟨rfl, g1⟩; have G1 := Lib.hid g1; clear g1)
            | (go_at_call 54; refine (rat_yes _ rb v N (HT.out.far G1.out (by simp) (by simp) (by simp)) p j HJ.out).mono ?_; rintro e w2 ⟨rfl, rfl⟩
               have HC1 := Lib.hid (HCB.out.kept G1.out)
               have HT1 := Lib.hid (HTP.out.kept G1.out)
               have q0 := HT1.out.at_ (i := 0) (v := .slice (some ⟨g, 0, none⟩) nn cap) rfl
               have q1 := HC1.out.at_ (i := j * 5 + 1) (v := .bool false) (by rw [← mul5]; exact HE.out 1 _ (by show some (Value.bool n.dir) = _; rw [HD.out])))
            | (refine wpList_loadX (p := ndC (p, n)) aggNd rfl (.tmp 57) rfl (b := g) (off := j * 5) (fun q u hq => HC1.out.at_ (by rw [← mul5]; exact HE.out q u hq)) rfl (by first | rfl | go_simp) ?_)
            | (go_at_call 49; refine (rmay_any _ who 2 ⟨p.toArray⟩ n.owner n.dir n.mode n.data HMO.out (.inr (.inl rfl))).mono ?_; rw [HMY.out]; rintro e w6 ⟨rfl, g6⟩; have G6 := Lib.hid (grown_trans' G1.out g6); clear g6 q0 q1))
          go_ret
          exact ⟨rfl, RDone.stay HT.out G6.out⟩
        | true =>
          rw [hmy, if_neg (by decide)] at hR
          have HMY := Lib.hid hmy
          have HA := Lib.hid (show writeA N who p l x = .data p l by unfold writeA; rw [hk, hR, if_pos rfl, hl])
          rw [hR, HA.out]
          clear hcc hp hs hR hl h0 h1 h2 h ht hr hk hRw hv hcb hnc hcz htk hjn hnn hjc htop hj hjx hd hmy
          go_enter Tryz.func26, Tryz.ntmps26
          go_wp2_with (first
            | (go_at_call 53; refine CC.out.mono ?_; rintro e w1 ⟨rfl, g1⟩; have G1 := Lib.hid g1; clear g1)
            | (go_at_call 54; refine (rat_yes _ rb v N (HT.out.far G1.out (by simp) (by simp) (by simp)) p j HJ.out).mono ?_; rintro e w2 ⟨rfl, rfl⟩
               have HC1 := Lib.hid (HCB.out.kept G1.out)
               have HT1 := Lib.hid (HTP.out.kept G1.out)
               have q0 := HT1.out.at_ (i := 0) (v := .slice (some ⟨g, 0, none⟩) nn cap) rfl
               have q1 := HC1.out.at_ (i := j * 5 + 1) (v := .bool false) (by rw [← mul5]; exact HE.out 1 _ (by show some (Value.bool n.dir) = _; rw [HD.out])))
            | (refine wpList_loadX (p := ndC (p, n)) aggNd rfl (.tmp 57) rfl (b := g) (off := j * 5) (fun q u hq => HC1.out.at_ (by rw [← mul5]; exact HE.out q u hq)) rfl (by first | rfl | go_simp) ?_)
            | (go_at_call 49; refine (rmay_any _ who 2 ⟨p.toArray⟩ n.owner n.dir n.mode n.data HMO.out (.inr (.inl rfl))).mono ?_; rw [HMY.out]; rintro e w6 ⟨rfl, g6⟩; have G6 := Lib.hid (grown_trans' G1.out g6); clear g6 q0 q1))
          have RB6 := Lib.hid (HRB.out.below (below_of_none G6.out))
          have HC6 := Lib.hid (HCB.out.kept G6.out)
          have HCT := Lib.hid (fun (wx : World) (hx : w6.grownBy wx (some g)) => ((HTP.out.kept G6.out).grown hx (cb_neT (HTP.out.kept G6.out) HC6.out (by decide))).at_ (i := 0) (v := .slice (some ⟨g, 0, none⟩) nn cap) rfl)
          refine helds_begin (fun W => w6.grownBy W (some g)) (by kernel_rfl) (grown_drew (World.grownBy.refl _ _)) (fun _ => ?_)
          refine helds_take (i := 0) (d := some 61) (v := ?vWA_1) (by assumption) rfl rfl (by kernel_rfl) (fun _ _ _ h => h) ?yWA_1 ?_; case yWA_1 => (refine Or.inl ⟨rfl, fun wx hS => ?_⟩; go_simp; try with_reducible rfl)
          try simp only [Act.put, List.setIfInBounds_toArray, List.set_cons_zero, List.set_cons_succ]
          refine helds_take (i := 1) (d := some 62) (v := ?vWA_2) (by assumption) rfl rfl (by kernel_rfl) (fun _ _ _ h => h) ?yWA_2 ?_; case yWA_2 => (refine Or.inl ⟨rfl, fun wx hS => ?_⟩; go_simp; try with_reducible rfl)
          try simp only [Act.put, List.setIfInBounds_toArray, List.set_cons_zero, List.set_cons_succ]
          refine helds_take (i := 2) (d := some 63) (v := ?vWA_3) (by assumption) rfl rfl (by kernel_rfl) (fun _ _ _ h => h) ?yWA_3 ?_; case yWA_3 => (refine Or.inl ⟨rfl, fun wx hS => ?_⟩; go_simp; try with_reducible rfl)
          try simp only [Act.put, List.setIfInBounds_toArray, List.set_cons_zero, List.set_cons_succ]
          refine helds_take (i := 3) (d := some 64) (v := ?vWA_4) (by assumption) rfl rfl (by kernel_rfl) (fun _ _ _ h => h) ?yWA_4 ?_; case yWA_4 => (refine Or.inl ⟨rfl, fun wx hS => ?_⟩; have hk := HCT.out wx hS; go_simp; try with_reducible rfl)
          try simp only [Act.put, List.setIfInBounds_toArray, List.set_cons_zero, List.set_cons_succ]
          refine helds_take (i := 4) (d := some 65) (v := ?vWA_5) (by assumption) rfl rfl (by kernel_rfl) (fun _ _ _ h => h) ?yWA_5 ?_; case yWA_5 => (refine Or.inl ⟨rfl, fun wx hS => ?_⟩; go_simp; try with_reducible rfl)
          try simp only [Act.put, List.setIfInBounds_toArray, List.set_cons_zero, List.set_cons_succ]
          refine helds_take (i := 6) (d := some 67) (v := ?vWA_6) (by assumption) rfl rfl (by kernel_rfl) (fun _ _ _ h => h) ?yWA_6 ?_; case yWA_6 => (refine Or.inl ⟨rfl, fun wx hS => ?_⟩; go_simp; try with_reducible rfl)
          try simp only [Act.put, List.setIfInBounds_toArray, List.set_cons_zero, List.set_cons_succ]
          refine helds_one (i := 5) rfl (by kernel_rfl) rfl (fun K hK => ?_)
          refine wp_lit0D (d := some 66) rfl rfl Tryz.underlying29 byteInfo ?_
          have hS5 : w6.grownBy (w6.drew.alloc (.cells #[] 5)) (some g) := grown_some (grown_trans' (grown_drew (World.grownBy.refl w6 none)) (grown_alloc _ _ none)) g
          refine hK.out _ _ (by assumption) (fun _ => ?_)
          clear hK K
          try simp only [Act.put, List.setIfInBounds_toArray, List.set_cons_zero, List.set_cons_succ]
          refine helds_one (i := 7) rfl (by kernel_rfl) rfl (fun K hK => ?_)
          refine wp_appB byteT (d := some 68) rfl (.tmp 66) (.tmp 67) rfl (OwnB.new0 w6.drew w6.heap.size 5 (Nat.le_refl _)) ((RB6.out.drew).alloc (by have := G6.out.size; exact this) _) (by first | rfl | go_simp) (by rw [HKL.out]; first | rfl | go_simp) (by simp; have := H2.out; have := HKL.out; omega) (by rw [World.size_alloc]; exact Nat.le_succ _) ?_
          intro v5 w5 o5 g5 a5
          rw [List.nil_append] at o5
          have G5 := Lib.hid (fresh_grown (w := w6) (w1 := w6.drew) rfl (grown_drew (World.grownBy.refl w6 none)) g5)
          obtain ⟨A5, c5, hv5, -, -⟩ := o5.shape
          rw [HKL.out] at hv5
          subst hv5
          have O5 := Lib.hid (OwnB.base_ o5 (Nat.zero_le _))
          have P5 := Lib.hid (OwnB.base_ o5 G6.out.size)
          have hS6 : w6.grownBy w5 (some g) := grown_some G5.out g
          clear o5 g5 a5
          refine hK.out _ _ (by assumption) (fun _ => ?_)
          clear hK K
          try simp only [Act.put, List.setIfInBounds_toArray, List.set_cons_zero, List.set_cons_succ]
          refine helds_take (i := 8) (d := some 69) (v := ?vWA_7) (by assumption) rfl rfl (by kernel_rfl) (fun _ _ _ h => h) ?yWA_7 ?_; case yWA_7 => (refine Or.inl ⟨rfl, fun wx hS => ?_⟩; go_simp; try with_reducible rfl)
          try simp only [Act.put, List.setIfInBounds_toArray, List.set_cons_zero, List.set_cons_succ]
          refine helds_take (i := 9) (d := some 70) (v := ?vWA_8) (by assumption) rfl rfl (by kernel_rfl) (fun _ _ _ h => h) ?yWA_8 ?_; case yWA_8 => (refine Or.inl ⟨rfl, fun wx hS => ?_⟩; go_simp; try with_reducible rfl)
          try simp only [Act.put, List.setIfInBounds_toArray, List.set_cons_zero, List.set_cons_succ]
          refine helds_one (i := 10) rfl (by kernel_rfl) rfl (fun K hK => ?_)
          refine wp_storeC (d := none) (off := j * 5 + 4) (p := [.slice A5 k c5]) szBy rfl (.tmp 70) (.tmp 68) rfl (.slice A5 k c5) rfl (by intro u hu; rw [List.mem_singleton.1 hu]; rfl) (HC6.out.kept G5.out) rfl (by have := HJC.out; omega) (by first | rfl | go_simp) (by first | rfl | go_simp) ?_
          intro w7 h7 g7
          have H7 := Lib.hid h7
          have G7 := Lib.hid g7
          have hS7 : w6.grownBy w7 (some g) := grown_trans' (grown_some G5.out g) g7
          clear h7 g7
          refine hK.out _ _ (by assumption) (fun _ => ?_)
          clear hK K
          try simp only [Act.put]
          refine held_end (by kernel_rfl) ?_ _
          go_wp2
          go_ret
          have hT := HT.out.far (grown_trans' G6.out G5.out) (by simp) (by simp) (by simp)
          have hv' := HV.out
          subst hv'
          exact ⟨rfl, RDone.back (grown_trans' G6.out G5.out) ⟨_, turn p (fun y => { y with data := .slice A5 k c5 }) N, rt_turn (j := 4) (u := .slice A5 k c5) hT (HC6.out.kept G5.out) HX.out (fun y => { y with data := .slice A5 k c5 }) rfl (by omega) (by rw [mul5]; exact H7.out) G7.out O5.out (by have := H2.out; have := HKL.out; omega) (hT.mode _ (List.mem_of_getElem? HX.out)), ⟨_, rfl, World.ownsRow.kept P5.out G7.out (.inr (P5.out.ne_cells (HC6.out.kept G5.out) (by decide)))⟩, .inr (.inr ⟨g, rfl, G7.out⟩), .inl rfl⟩⟩
  · have hR : writeC N who p k m = 1 := by unfold writeC; rw [hcc, if_neg (by decide), if_pos (by simpa using h1)]
    have HA := Lib.hid (show writeA N who p l m = .stay by unfold writeA; rw [hk, hR, if_neg (by decide)])
    rw [hR, HA.out]
    clear hcc hp hs hR h ht h0 hr hk
    by_cases h1a : m < 0
    · clear h1
      go_enter Tryz.func26, Tryz.ntmps26
      go_wp2_with (go_at_call 53; refine CC.out.mono ?_; rintro e w1 ⟨rfl, g1⟩; have G1 := Lib.hid g1; clear g1)
      go_ret
      exact ⟨rfl, RDone.stay HT.out G1.out⟩
    · have h1b : 63 < m := by omega
      clear h1
      go_enter Tryz.func26, Tryz.ntmps26
      go_wp2_with (go_at_call 53; refine CC.out.mono ?_; rintro e w1 ⟨rfl, g1⟩; have G1 := Lib.hid g1; clear g1)
      go_ret
      exact ⟨rfl, RDone.stay HT.out G1.out⟩
end Go.Proofs.YtlkchajkhplapaaGreatDoor
