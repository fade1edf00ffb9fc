/- look: what a call that only looks answers, at both Trees, is one. -/
import Derived.Test.YtjonnamemmleiaaGreatDoorUao
namespace Go.Proofs.YtjonnamemmleiaaGreatDoor
open Go.RowKit Go.Maps Go.WideMaps

section
variable {P : Program} {w : World} {ops : Array Oper} {rest : List Oper} {o : Oper} {a : Act} {Q : Exit → Act → World → Prop} {ty t e : TypeId} {n g off sz : Nat} {cs p zs : List Value}
theorem run_allocC (hz : ∀ w, (zeroValue ty).run P w = .ok (.agg cs.toArray) w) (w : World) : (Instr.alloc ty true (.tuple #[])).run P w = .ok (.pointer (some ⟨w.heap.size, 0, none⟩)) (w.alloc (.cells cs.toArray ty)) := by
  simp [Instr.alloc, hz, newVar, newRow, Value.cells]
theorem wpList_allocC (hz : ∀ w, (zeroValue ty).run P w = .ok (.agg cs.toArray) w) (hgd : o.guard = none) (ho : o.op = .alloc ty)
    (hk : wpList P ops Q rest (a.put o.dst (.pointer (some ⟨w.heap.size, 0, none⟩))) (w.alloc (.cells cs.toArray ty))) : wpList P ops Q (o :: rest) a w := by
  refine wpList_plain hgd fun K hK => ?_
  unfold Oper.wp execOp
  simp only [ho, Sem.run_bind, run_allocC hz w, Result.andThen_ok, Sem.run_pure]
  exact hK _ _ hk
/-- A guarded load whose guard has been met. -/
theorem wpList_loadCg (hT : AggT P ty n) (hw : Region.wanted o (yielded ops a.tmps) = true) (x : Operand) (ho : o.op = .load ty x) (h : CB w g t cs) (hp : (cs.drop off).take n = p) (hl : off + n ≤ cs.length) (hx : a.eval x = .pointer (some ⟨g, off, none⟩))
    (hk : wpList P ops Q rest (a.put o.dst (.agg p.toArray)) w) : wpList P ops Q (o :: rest) a w := by
  refine wpList_step fun K hK => ?_
  rw [if_pos hw]
  unfold Oper.wp execOp
  simp only [ho, hx, Instr.loadAt, Instr.sureAddr, Sem.run_bind, Sem.run_pure, Result.andThen_ok, run_loadC hT h hp hl]
  exact hK _ _ hk
theorem wpList_lit1g (ht : P.underlying t = some (.slice e)) (hi : (P.info? e).map (·.size) = some sz) (hz : ∀ w, (zeroValue e).run P w = .ok (.agg zs.toArray) w) (hp : p.length = sz) (hs : sz ≤ 1000) (hpos : 0 < sz) (hw : Region.wanted o (yielded ops a.tmps) = true) (x : Operand) (ho : o.op = .buildSlice t 1 #[(0, x)]) (hx : a.eval x = .agg p.toArray)
    (hk : wpList P ops Q rest (a.put o.dst (.slice (some ⟨w.heap.size, 0, none⟩) 1 1)) (w.alloc (.cells p.toArray e))) : wpList P ops Q (o :: rest) a w := by
  refine wpList_step fun K hK => ?_
  rw [if_pos hw]
  unfold Oper.wp execOp
  simp only [ho, List.map_toArray, List.map_cons, List.map_nil, hx, run_lit1 ht hi hz hp hs hpos w, Sem.run_bind, Result.andThen_ok, Sem.run_pure]
  exact hK _ _ hk
end
theorem sr_of {w : World} {base n c sz : Nat} {e : TypeId} {A : Option Addr} {Cs : List (List Value)} (h : RowX w base e sz (.slice A n c) Cs) : SR w w.heap.size A sz Cs c := by
  obtain ⟨A', c', hv, hs, -⟩ := h.shape
  injection hv with h1 h2 h3
  subst h1 h3
  exact hs
theorem sr_one {w : World} {g : Nat} {cs : List Value} (h : CB w g 63 cs) : SR w w.heap.size (some ⟨g, 0, none⟩) 5 [cs] 1 := by
  refine ⟨Nat.le_refl _, by decide, .inr ⟨_, rfl, fun _ => ⟨rfl, h.lt⟩, fun k c hk j u hj => ?_⟩⟩
  cases k with
  | succ k => simp at hk
  | zero =>
    simp at hk
    subst hk
    have := h.at_ hj
    simpa using this
theorem same_one (w : World) {g1 g2 k1 c1 k3 c3 : Nat} {A1 A3 : Option Addr} {P o : ByteArray} {d : Bool} {m : Nat} {l : List UInt8} (hX : CB w g1 63 (nodeC P d o m (.slice A1 k1 c1))) (hY : CB w g2 63 (nodeC P d o m (.slice A3 k3 c3))) (h1 : OwnB w 0 5 (.slice A1 k1 c1) l) (h3 : OwnB w 0 5 (.slice A3 k3 c3) l) :
    Calls Tryz.prog 28 #[.slice (some ⟨g1, 0, none⟩) 1 1, .slice (some ⟨g2, 0, none⟩) 1 1] w fun e w' => e = .returned (.bool true) ∧ w.grownBy w' none :=
  same_true w _ _ 1 1 1 _ _ rfl rfl (sr_one hX) (sr_one hY) (fun i c d' hc hd => by
    cases i with
    | succ i => simp at hc
    | zero =>
      simp at hc hd
      subst hc hd
      exact ⟨P, d, o, m, _, _, l, rfl, rfl, h1, h3⟩)

theorem own_len {w : World} {base n c : Nat} {e : TypeId} {A : Option Addr} {l : List UInt8} (h : OwnB w base e (.slice A n c) l) : n ≤ 9223372036854775807 := by
  obtain ⟨A', c', hv, hr, -⟩ := h.shape
  injection hv with h1 h2 h3
  have h4 := hr.1
  have h5 := hr.2.1
  unfold maxLen at h5
  omega
theorem grown_refl (w : World) (r : Option Nat) : w.grownBy w r := ⟨rfl, rfl, rfl, Nat.le_refl _, fun _ _ _ => rfl⟩
theorem lt_own {w : World} {base B : Nat} {e : TypeId} {v u : Value} {l : List UInt8} (h : OwnB w base e v l) (hu : ∀ g, u.ownBlock = some g → B ≤ g) (hB : w.heap.size ≤ B) : v.ownBlock = none ∨ v.ownBlock ≠ u.ownBlock := by
  cases hv : v.ownBlock with
  | none => exact .inl rfl
  | some g =>
    refine .inr fun e => ?_
    have h1 := (h.lt g hv).2
    have h2 := hu g e.symm
    omega
set_option maxRecDepth 20000 in
set_option maxHeartbeats 16000000 in
theorem look_any (w0 w : World) (tb mb rb : Nat) (v : Value) (M N : List (List UInt8 × Nd)) (h : PR w0 w tb mb M rb v N) (ok om : Int) (who path own : ByteArray) (dv0 : Value) (hpl : path.data.toList.length ≤ 300) :
    Calls Tryz.prog 27 #[.pointer (some ⟨tb, 0, none⟩), .pointer (some ⟨rb, 0, none⟩), .agg #[.int .i64 ok, .int .i64 om, .string who, .string path, .string own, dv0]] w fun e w' => e = .returned (.bool true) ∧ w.grownBy w' none := by
  obtain ⟨wa, hwa⟩ : ∃ x, x = w.alloc (.cells #[.int .i64 ok, .int .i64 om, .string who, .string path, .string own, dv0] 31) := ⟨_, rfl⟩
  have hga : w.grownBy wa none := by rw [hwa]; exact grown_alloc _ _ _
  have hcx : CB wa w.heap.size 31 [.int .i64 ok, .int .i64 om, .string who, .string path, .string own, dv0] := by rw [hwa]; exact CB.new _ _ _
  have HGA := Lib.hid hga
  have CX0 := Lib.hid hcx
  have HA := Lib.hid (h.grown hga)
  have HWA := Lib.hid hwa
  obtain ⟨p, hp⟩ : ∃ p, path.data.toList = p := ⟨_, rfl⟩
  have HP := Lib.hid hp
  have HPL := Lib.hid (show p.length ≤ 300 by rw [← hp]; exact hpl)
  clear h hga hcx hwa hp hpl
  go_enter Tryz.func27, Tryz.ntmps27
  go_wp2_with fail
  rw [show w.alloc (.cells #[.int .i64 ok, .int .i64 om, .string who, .string path, .string own, dv0] 31) = wa from HWA.out.symm]
  have b2 := CX0.out.at_ (i := 2) (v := .string who) rfl
  have b3 := CX0.out.at_ (i := 3) (v := .string path) rfl
  go_wp2_with (first
    | (go_at_call 37
       refine (l_stat HA.out who path HP.out HPL.out).mono ?_
       rintro e w1 ⟨P, d, o, mo, l1, c1, A1, k1, cp1, rfl, o1, hk1, sd1, g1⟩
       have G1 := Lib.hid g1
       have O1 := Lib.hid (OwnB.base_ o1 (Nat.le_refl _))
       have K1 := Lib.hid hk1
       have SD1 := Lib.hid sd1
       clear g1 o1 hk1 sd1 b2 b3
       have TK1 := Lib.hid True.intro)
    | (refine wpList_allocC zeroNd_run rfl rfl ?_)
    | (have hx := TK1; clear hx TK1
       refine wpList_storeC (off := 0) (p := nodeC P d o mo (.slice A1 k1 cp1)) aggNd.hi rfl (.tmp 7) (.tmp 29) rfl (.agg (nodeC P d o mo (.slice A1 k1 cp1)).toArray) rfl (nd_one _ _ _ _ _ _ _) (CB.new w1 63 zeroNd) rfl (Nat.le_refl _) (by first | rfl | go_simp) (by first | rfl | go_simp) ?_
       intro w2 h2 g2
       have C2 := Lib.hid (show CB w2 w1.heap.size 63 (nodeC P d o mo (.slice A1 k1 cp1)) from h2)
       have J2 := Lib.hid (none_new (grown_alloc w1 (.cells zeroNd.toArray 63) none) g2 (Nat.le_refl _))
       have G2 := Lib.hid (grown_trans' G1.out J2.out)
       have b2 := (CX0.out.kept G2.out).at_ (i := 2) (v := .string who) rfl
       have b3 := (CX0.out.kept G2.out).at_ (i := 3) (v := .string path) rfl
       clear h2 g2)
    | (go_at_call 65
       refine (r_stat (HA.out.grown G2.out).rt who path HP.out HPL.out (SD1.out.keep (Keep.below (below_of_none J2.out)))).mono ?_
       rintro e w3 ⟨A3, k3, cp3, rfl, o3, g3⟩
       have G3 := Lib.hid (grown_trans' G2.out g3)
       have J3 := Lib.hid (grown_trans' J2.out g3)
       have O3 := Lib.hid o3
       have C3 := Lib.hid (C2.out.kept g3)
       clear g3 o3 b2 b3
       have TK2 := Lib.hid True.intro)
    | (have hx := TK2; clear hx TK2
       refine wpList_storeC (off := 0) (p := nodeC P d o mo (.slice A3 k3 cp3)) aggNd.hi rfl (.tmp 9) (.tmp 38) rfl (.agg (nodeC P d o mo (.slice A3 k3 cp3)).toArray) rfl (nd_one _ _ _ _ _ _ _) (CB.new w3 63 zeroNd) rfl (Nat.le_refl _) (by first | rfl | go_simp) (by first | rfl | go_simp) ?_
       intro w4 h4 g4
       have D4 := Lib.hid (show CB w4 w3.heap.size 63 (nodeC P d o mo (.slice A3 k3 cp3)) from h4)
       have L4 := Lib.hid (none_new (grown_alloc w3 (.cells zeroNd.toArray 63) none) g4 (Nat.le_refl _))
       have G4 := Lib.hid (grown_trans' G3.out L4.out)
       have J4 := Lib.hid (grown_trans' J3.out L4.out)
       have C4 := Lib.hid (C3.out.kept L4.out)
       have O4 := Lib.hid (O3.out.below (below_of_none L4.out))
       have b2 := (CX0.out.kept G4.out).at_ (i := 2) (v := .string who) rfl
       have b3 := (CX0.out.kept G4.out).at_ (i := 3) (v := .string path) rfl
       clear h4 g4)
    | (go_at_call 66
       refine (l_read (HA.out.grown G4.out) who path HP.out HPL.out).mono ?_
       rintro e w5 ⟨l5, c5, A5, k5, cp5, rfl, o5, hk5, rd5, g5⟩
       have G5 := Lib.hid (grown_trans' G4.out g5)
       have J5 := Lib.hid (grown_trans' J4.out g5)
       have L5 := Lib.hid (grown_trans' L4.out g5)
       have M5 := Lib.hid g5
       have O5 := Lib.hid o5
       have K5 := Lib.hid hk5
       have RD5 := Lib.hid rd5
       clear g5 o5 hk5 rd5 b2 b3
       have b2 := (CX0.out.kept G5.out).at_ (i := 2) (v := .string who) rfl
       have b3 := (CX0.out.kept G5.out).at_ (i := 3) (v := .string path) rfl)
    | (go_at_call 67
       refine (r_read (HA.out.grown G5.out).rt who path HP.out HPL.out RD5.out).mono ?_
       rintro e w6 ⟨A6, k6, cp6, rfl, o6, hk6, g6⟩
       have G6 := Lib.hid (grown_trans' G5.out g6)
       have N6 := Lib.hid g6
       have O6 := Lib.hid o6
       have K6 := Lib.hid hk6
       clear g6 o6 hk6 b2 b3
       have b2 := (CX0.out.kept G6.out).at_ (i := 2) (v := .string who) rfl
       have b3 := (CX0.out.kept G6.out).at_ (i := 3) (v := .string path) rfl)
    | (go_at_call 38
       refine (l_list (HA.out.grown G6.out) who path HP.out HPL.out).mono ?_
       rintro e w7 ⟨ss, c7, A7, k7, cp7, rfl, r7, hk7, ld7, g7⟩
       have G7 := Lib.hid (grown_trans' G6.out g7)
       have N7 := Lib.hid (grown_trans' N6.out g7)
       have Q7 := Lib.hid g7
       have R7 := Lib.hid r7
       have K7 := Lib.hid hk7
       have LD7 := Lib.hid ld7
       clear g7 r7 hk7 ld7 b2 b3
       have b2 := (CX0.out.kept G7.out).at_ (i := 2) (v := .string who) rfl
       have b3 := (CX0.out.kept G7.out).at_ (i := 3) (v := .string path) rfl)
    | (go_at_call 68
       refine (r_list (HA.out.grown G7.out) who path HP.out HPL.out LD7.out).mono ?_
       rintro e w8 ⟨A8, k8, cp8, rfl, r8, hk8, g8⟩
       have G8 := Lib.hid (grown_trans' G7.out g8)
       have N8 := Lib.hid (grown_trans' N7.out g8)
       have Q8 := Lib.hid (grown_trans' Q7.out g8)
       have S8 := Lib.hid g8
       have R8 := Lib.hid r8
       have K8 := Lib.hid hk8
       clear g8 r8 hk8 b2 b3
       have C8 := Lib.hid (C4.out.kept (grown_trans' M5.out N8.out))
       have TK3 := Lib.hid True.intro)
    | (have hx := TK3; clear hx TK3
       refine wpList_loadCg (off := 0) (p := nodeC P d o mo (.slice A1 k1 cp1)) aggNd rfl (.tmp 7) rfl C8.out rfl (Nat.le_refl _) (by first | rfl | go_simp) ?_
       have TK4 := Lib.hid True.intro)
    | (have hx := TK4; clear hx TK4
       refine wpList_lit1g (p := nodeC P d o mo (.slice A1 k1 cp1)) Tryz.underlying43 aggNd.hi zeroNd_run rfl (by omega) (by omega) rfl (.tmp 80) rfl (by first | rfl | go_simp) ?_
       have X9 := Lib.hid (CB.new w8 63 (nodeC P d o mo (.slice A1 k1 cp1)))
       obtain ⟨w9, hw9⟩ : ∃ x, x = w8.alloc (.cells (nodeC P d o mo (.slice A1 k1 cp1)).toArray 63) := ⟨_, rfl⟩
       have J9 := Lib.hid (show w8.grownBy w9 none by rw [hw9]; exact grown_alloc _ _ _)
       rw [← hw9] at X9 ⊢
       clear hw9
       have TK5 := Lib.hid True.intro)
    | (have hx := TK5; clear hx TK5
       refine wpList_loadCg (off := 0) (p := nodeC P d o mo (.slice A3 k3 cp3)) aggNd rfl (.tmp 9) rfl (D4.out.kept (grown_trans' M5.out (grown_trans' N8.out J9.out))) rfl (Nat.le_refl _) (by first | rfl | go_simp) ?_
       have TK6 := Lib.hid True.intro)
    | (have hx := TK6; clear hx TK6
       refine wpList_lit1g (p := nodeC P d o mo (.slice A3 k3 cp3)) Tryz.underlying43 aggNd.hi zeroNd_run rfl (by omega) (by omega) rfl (.tmp 82) rfl (by first | rfl | go_simp) ?_
       have Y10 := Lib.hid (CB.new w9 63 (nodeC P d o mo (.slice A3 k3 cp3)))
       obtain ⟨w10, hw10⟩ : ∃ x, x = w9.alloc (.cells (nodeC P d o mo (.slice A3 k3 cp3)).toArray 63) := ⟨_, rfl⟩
       have J10 := Lib.hid (show w8.grownBy w10 none by rw [hw10]; exact grown_trans' J9.out (grown_alloc _ _ _))
       have X10 := Lib.hid (X9.out.kept (show w9.grownBy w10 none by rw [hw10]; exact grown_alloc _ _ _))
       rw [← hw10] at Y10 ⊢
       clear hw10)
    | (go_at_call 28
       refine (same_one w10 X10.out Y10.out (OwnB.base_ (O1.out.below (below_of_none (grown_trans' J4.out (grown_trans' M5.out (grown_trans' N8.out J10.out))))) (Nat.zero_le _)) (O4.out.below (below_of_none (grown_trans' M5.out (grown_trans' N8.out J10.out))))).mono ?_
       rintro e w11 ⟨rfl, g11⟩
       have J11 := Lib.hid (grown_trans' J10.out g11)
       have kv1 := conv_own (OwnB.base_ (O5.out.below (below_of_none (grown_trans' N8.out J11.out))) (Nat.zero_le _)) K5.out
       have kv2 := conv_own (O6.out.below (below_of_none (grown_trans' Q8.out J11.out))) K6.out
       clear g11)
    | (go_at_call 69
       have e78 : k8 = k7 := K8.out.symm.trans K7.out
       subst e78
       have rA := R7.out.none (grown_trans' S8.out J11.out)
       have rB := R8.out.none J11.out
       refine (sameNames_true w11 A7 A8 k8 cp7 cp8 ss K8.out (sr_of rA) (sr_of rB)).mono ?_
       rintro e w12 ⟨rfl, g12⟩
       have J12 := Lib.hid (grown_trans' J11.out g12)
       clear g12 rA rB kv1 kv2))
  have G12 := Lib.hid (grown_trans' G8.out J12.out)
  have O512 := Lib.hid (O5.out.below (below_of_none (grown_trans' N8.out J12.out)))
  have O112 := Lib.hid (O1.out.below (below_of_none (grown_trans' J4.out (grown_trans' M5.out (grown_trans' N8.out J12.out)))))
  have hk5 : k5 ≤ 9223372036854775807 := own_len O5.out
  have hk1 : k1 ≤ 9223372036854775807 := own_len O1.out
  go_loopw [20, 110] (fun _ iv wr => ∃ (i : Nat) (l : List UInt8), iv = .int .i64 i ∧ i ≤ k5 ∧ Hid (l.length = k5) ∧ Hid (OwnB wr w4.heap.size 5 (.slice A5 k5 cp5) l) ∧ Hid (w12.grownBy wr (Value.slice A5 k5 cp5).ownBlock)) (fun _ iv _ => k5 - (intOf iv).toNat)
  case atStart => exact ⟨0, l5, rfl, Nat.zero_le _, K5.out, O512.out, grown_refl _ _⟩
  case round =>
    obtain ⟨i, l, rfl, hi, HL, HO, HG⟩ := hrel
    by_cases hlt : i < k5
    · have hii : (i : Int) < (k5 : Int) := by omega
      obtain ⟨g, cs, hA, hcb, hic, hgb, hset⟩ := spoil_at HO.out HL.out hlt
      subst hA
      have HSET := Lib.hid hset
      have HCB := Lib.hid hcb
      have q0 := hcb.at_ (i := i) (List.getElem?_eq_getElem hic)
      have f0 := hcb.free i
      clear hset hcb hgb
      go_wp2
      go_roundw
      case rel => exact ⟨i + 1, l.set i 238, by go_num, by omega, by rw [List.length_set]; exact HL.out, HSET.out _ (HCB.out.set_ i _), grown_trans' HG.out (grownC_set _ _ _ _)⟩
      case measure => simp [intOf]; omega
    · have hii : ¬ (i : Int) < (k5 : Int) := by omega
      have O1r := Lib.hid (show OwnB wr wa.heap.size 5 (.slice A1 k1 cp1) l1 from World.ownsRow.kept O112.out HG.out (lt_own O1.out (fun g hg => (O512.out.lt g hg).1) (Nat.le_trans J4.out.size (Nat.le_refl _))))
      have G13 := Lib.hid (none_rowB G12.out HG.out (fun g hg => Nat.le_trans G4.out.size (O512.out.lt g hg).1))
      have C13 := Lib.hid (show CB wr w1.heap.size 63 (nodeC P d o mo (.slice A1 k1 cp1)) from (HG.out.block _ (C8.out.kept J12.out).lt (fun e => (O512.out.ne_cells (C8.out.kept J12.out) (by decide)) e.symm)).trans (C8.out.kept J12.out))
      have q4 := C13.out.at_ (i := 4) (v := .slice A1 k1 cp1) rfl
      obtain ⟨w13, hw13⟩ : ∃ x, x = wr := ⟨_, rfl⟩
      rw [← hw13] at O1r G13 C13 q4 ⊢
      clear hw13 HG HO HL
      go_wp2
      go_loopw [21, 120] (fun _ iv wr => ∃ (i : Nat) (l : List UInt8), iv = .int .i64 i ∧ i ≤ k1 ∧ Hid (l.length = k1) ∧ Hid (OwnB wr wa.heap.size 5 (.slice A1 k1 cp1) l) ∧ Hid (w13.grownBy wr (Value.slice A1 k1 cp1).ownBlock)) (fun _ iv _ => k1 - (intOf iv).toNat)
      case atStart => exact ⟨0, l1, rfl, Nat.zero_le _, K1.out, O1r.out, grown_refl _ _⟩
      case round =>
        obtain ⟨i2, l, rfl, hi2, HL, HO, HG⟩ := hrel
        have C14 := Lib.hid (show CB wr w1.heap.size 63 (nodeC P d o mo (.slice A1 k1 cp1)) from (HG.out.block _ C13.out.lt (fun e => (O1r.out.ne_cells C13.out (by decide)) e.symm)).trans C13.out)
        by_cases hlt2 : i2 < k1
        · have hii2 : (i2 : Int) < (k1 : Int) := by omega
          obtain ⟨g, cs, hA, hcb, hic, hgb, hset⟩ := spoil_at HO.out HL.out hlt2
          subst hA
          have HSET := Lib.hid hset
          have HCB := Lib.hid hcb
          have q0 := hcb.at_ (i := i2) (List.getElem?_eq_getElem hic)
          have f0 := hcb.free i2
          have q5 := C14.out.at_ (i := 4) (v := .slice (some ⟨g, 0, none⟩) k1 cp1) rfl
          clear hset hcb hgb q4
          go_wp2
          go_roundw
          case rel => exact ⟨i2 + 1, l.set i2 238, by go_num, by omega, by rw [List.length_set]; exact HL.out, HSET.out _ (HCB.out.set_ i2 _), grown_trans' HG.out (grownC_set _ _ _ _)⟩
          case measure => simp [intOf]; omega
        · have hii2 : ¬ (i2 : Int) < (k1 : Int) := by omega
          have G14 := Lib.hid (none_rowB G13.out HG.out (fun g hg => (O1r.out.lt g hg).1))
          clear q4
          go_wp2
          have HC3 := Lib.hid (fun (wx : World) (hx : wa.grownBy wx none) => (CX0.out.kept hx).at_ (i := 3) (v := .string path) rfl)
          have hS14 : wa.grownBy wr.drew none := grown_drew G14.out
          have PA := Lib.hid (fun W => path_any W path p HP.out (by have := HPL.out; omega))
          have PB := Lib.hid (fun W => refPath_any W path p HP.out (by have := HPL.out; omega))
          refine helds_begin (fun W => wa.grownBy W none) (by kernel_rfl) (by assumption) (fun _ => ?_)
          refine helds_take (i := 0) (d := some 128) (v := ?vUP_1) (by assumption) rfl rfl (by kernel_rfl) (fun _ _ _ h => h) ?yUP_1 ?_; case yUP_1 => (refine Or.inl ⟨rfl, fun wx hS => ?_⟩; go_simp; try with_reducible rfl)
          try simp only [Act.put, List.setIfInBounds_toArray, List.set_cons_zero, List.set_cons_succ]
          refine helds_take (i := 1) (d := some 129) (v := ?vUP_2) (by assumption) rfl rfl (by kernel_rfl) (fun _ _ _ h => h) ?yUP_2 ?_; case yUP_2 => (refine Or.inl ⟨rfl, fun wx hS => ?_⟩; go_simp; try with_reducible rfl)
          try simp only [Act.put, List.setIfInBounds_toArray, List.set_cons_zero, List.set_cons_succ]
          refine helds_take (i := 2) (d := some 130) (v := ?vUP_3) (by assumption) rfl rfl (by kernel_rfl) (fun _ _ _ h => h) ?yUP_3 ?_; case yUP_3 => (refine Or.inl ⟨rfl, fun wx hS => ?_⟩; go_simp; try with_reducible rfl)
          try simp only [Act.put, List.setIfInBounds_toArray, List.set_cons_zero, List.set_cons_succ]
          refine helds_take (i := 3) (d := some 131) (v := ?vUP_4) (by assumption) rfl rfl (by kernel_rfl) (fun _ _ _ h => h) ?yUP_4 ?_; case yUP_4 => (refine Or.inl ⟨rfl, fun wx hS => ?_⟩; have hk := HC3.out wx hS; go_simp; try with_reducible rfl)
          try simp only [Act.put, List.setIfInBounds_toArray, List.set_cons_zero, List.set_cons_succ]
          refine helds_take (i := 5) (d := some 133) (v := ?vUP_5) (by assumption) rfl rfl (by kernel_rfl) (fun _ _ _ h => h) ?yUP_5 ?_; case yUP_5 => (refine Or.inl ⟨rfl, fun wx hS => ?_⟩; go_simp; try with_reducible rfl)
          try simp only [Act.put, List.setIfInBounds_toArray, List.set_cons_zero, List.set_cons_succ]
          refine helds_take (i := 6) (d := some 134) (v := ?vUP_6) (by assumption) rfl rfl (by kernel_rfl) (fun _ _ _ h => h) ?yUP_6 ?_; case yUP_6 => (refine Or.inl ⟨rfl, fun wx hS => ?_⟩; have hk := HC3.out wx hS; go_simp; try with_reducible rfl)
          try simp only [Act.put, List.setIfInBounds_toArray, List.set_cons_zero, List.set_cons_succ]
          refine helds_one (i := 4) rfl (by kernel_rfl) rfl (fun K hK => ?_)
          refine wp_callU (d := some 132) (f := 70) (args := #[.string path]) rfl (by first | rfl | go_simp) ?_
          refine (PA.out _).mono ?_
          rintro e w15 ⟨rfl, b15⟩
          refine ⟨_, rfl, ?_⟩
          have hS15 : wa.grownBy w15 none := grown_trans' hS14 (none_of_below b15 (Nat.le_refl _))
          clear b15
          refine hK.out _ _ (by assumption) (fun _ => ?_)
          clear hK K
          try simp only [Act.put, List.setIfInBounds_toArray, List.set_cons_zero, List.set_cons_succ]
          refine helds_one (i := 7) rfl (by kernel_rfl) rfl (fun K hK => ?_)
          refine wp_callU (d := some 135) (f := 71) (args := #[.string path]) rfl (by first | rfl | go_simp) ?_
          refine (PB.out _).mono ?_
          rintro e w16 ⟨rfl, g16⟩
          refine ⟨_, rfl, ?_⟩
          have hS16 : wa.grownBy w16 none := grown_trans' hS15 g16
          have GE := Lib.hid hS16
          clear g16
          refine hK.out _ _ (by assumption) (fun _ => ?_)
          clear hK K
          try simp only [Act.put, List.setIfInBounds_toArray, List.set_cons_zero, List.set_cons_succ]
          refine helds_take (i := 8) (d := some 136) (v := ?vUP_7) (by assumption) rfl rfl (by kernel_rfl) (fun _ _ _ h => h) ?yUP_7 ?_; case yUP_7 => (refine Or.inl ⟨rfl, fun wx hS => ?_⟩; go_simp; try with_reducible rfl)
          try simp only [Act.put, List.setIfInBounds_toArray, List.set_cons_zero, List.set_cons_succ]
          refine helds_take (i := 9) (d := some 137) (v := ?vUP_8) (by assumption) rfl rfl (by kernel_rfl) (fun _ _ _ h => h) ?yUP_8 ?_; case yUP_8 => (refine Or.inl ⟨rfl, fun wx hS => ?_⟩; go_simp; try with_reducible rfl)
          try simp only [Act.put, List.setIfInBounds_toArray, List.set_cons_zero, List.set_cons_succ]
          refine helds_take (i := 10) (d := some 6) (v := ?vUP_9) (by assumption) rfl rfl (by kernel_rfl) (fun _ _ _ h => h) ?yUP_9 ?_; case yUP_9 => (refine Or.inl ⟨rfl, fun wx hS => ?_⟩; go_simp; try with_reducible rfl)
          try simp only [Act.put, List.setIfInBounds_toArray, List.set_cons_zero, List.set_cons_succ]
          refine held_end (by kernel_rfl) ?_ _
          go_wp2
          go_ret
          exact ⟨rfl, grown_trans' HGA.out GE.out⟩
end Go.Proofs.YtjonnamemmleiaaGreatDoor
