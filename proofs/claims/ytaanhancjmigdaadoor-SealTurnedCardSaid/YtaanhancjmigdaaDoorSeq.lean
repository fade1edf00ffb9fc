/- The walk of the law SealBack. -/
import Derived.Test.YtaanhancjmigdaaDoorSep
import Derived.Test.YtaanhancjmigdaaDoorSeh
import Derived.Test.YtaanhancjmigdaaDoorSen
namespace Go.Proofs.YtaanhancjmigdaaDoor
open Go.RowKit Go.Maps

theorem streamOf_twice (K : List UInt8) (n : Nat) (l : List UInt8) : streamOf K n (streamOf K n l) = l := by
  refine List.ext_getElem (by rw [streamOf_length, streamOf_length]) (fun i h1 h2 => ?_)
  simp [streamOf, h2, UInt8.xor_assoc]
theorem openT_box (key : List UInt8) (u : Int) (n : Nat) (l : List UInt8) (hn : n < 18446744073709551616) (hl : l.length ≤ 2000) : openT key u (boxS key u n l) = some l := by
  have hL := boxS_len key u n l
  have hq : (boxS key u n l).length - 16 = (aheadS key u n l).length := by rw [hL, aheadS_len]; omega
  have h1 : (boxS key u n l).take (aheadS key u n l).length = aheadS key u n l := by unfold boxS; exact List.take_left' rfl
  have h2 : (boxS key u n l).drop (aheadS key u n l).length = sumS key u (aheadS key u n l) := by unfold boxS; exact List.drop_left' rfl
  have h3 : (aheadS key u n l).drop 8 = turnS key u n l := by unfold aheadS; exact List.drop_left' (wide8_len n)
  unfold openT
  rw [hq, h1, h2, h3, boxS_num, numOf_wide n hn, if_pos ⟨by omega, by omega, rfl⟩]
  congr 1
  unfold turnS
  exact streamOf_twice _ _ _
set_option maxRecDepth 10000 in
set_option maxHeartbeats 1000000 in
theorem openSN_any (w : World) (s : Nat) (seed : List UInt8) (d m : Nat) (h : SN w s seed d m) (hT : TB w) (key : List UInt8) (u : Int) (A : Option Addr) (box : List UInt8) (n cap : Nat) (hk : key.length = 16) (hn : box.length = n) (hp : RB w w.heap.size A box cap) :
    Calls Tryd.prog 18 #[.pointer (some ⟨s, 0, none⟩), .agg (bcells key).toArray, .int .i64 u, .slice A n cap] w fun e w' => Opened w (openT key u box) e w' := by
  have G0 := Lib.hid (grown_alloc w (.cells (bcells key).toArray 23) none)
  have K0 := Lib.hid (CB.new w 23 (bcells key))
  have HK := Lib.hid hk
  have q0 := (h.2.alloc (.cells (bcells key).toArray 23)).at_ (ssC_sy seed d m)
  have HC := Lib.hid (openSum_any key u A box n cap _ (hT.alloc (.cells (bcells key).toArray 23)) hk hn (hp.keptS G0.out))
  clear h hk hn hp hT
  obtain ⟨o, ho⟩ : ∃ o, openT key u box = o := ⟨_, rfl⟩
  rw [ho] at HC ⊢
  clear ho
  cases o with
  | none =>
    go_enter Tryd.func18, Tryd.ntmps18
    go_wp2_with (first
      | (refine wpList_loadC (off := 0) (p := bcells key) aggKy rfl (.tmp 5) rfl K0.out (take_all (by rw [bcells_length]; exact HK.out)) (by rw [bcells_length, HK.out]; omega) (by first | rfl | go_simp) ?_)
      | (go_at_call 34; refine HC.out.mono ?_; rintro e w2 ⟨g, rfl⟩; have G2 := Lib.hid (grown_trans' G0.out g); clear g))
    go_ret2
    exact ⟨G2.out, rfl⟩
  | some p =>
    go_enter Tryd.func18, Tryd.ntmps18
    go_wp2_with (first
      | (refine wpList_loadC (off := 0) (p := bcells key) aggKy rfl (.tmp 5) rfl K0.out (take_all (by rw [bcells_length]; exact HK.out)) (by rw [bcells_length, HK.out]; omega) (by first | rfl | go_simp) ?_)
      | (go_at_call 34; refine HC.out.mono ?_; rintro e w2 ⟨g, A5, c5, rfl, o5⟩; have G2 := Lib.hid (grown_trans' G0.out g); have O5 := Lib.hid (o5.base_ G0.out.size); clear g o5))
    go_ret2
    exact ⟨G2.out, A5, c5, rfl, O5.out⟩
section
open Go.ChangeShapes Go.WideShapes
variable {H : Type} {enc : TypeId × Value → H} {w : World} {base : Nat} {held : Bool}
set_option maxRecDepth 100000 in
theorem open_Op6 {r : Reach} {b0 : Nat} {v : Value} {d : DataW H} {p : List MemPlace} (hv : Value.okWide Tryd.prog w r b0 34 v) (h : DataW.Trod enc Tryd.prog w base (fun _ => true) held 34 v d p) :
    ∃ e : Op6, v = .agg (op6C e).toArray ∧ op6W w e := by
  obtain ⟨ca, rfl, hsz⟩ := okWide_struct Tryd.underlying34 hv
  obtain ⟨fuel, hf0⟩ := h
  obtain ⟨xs, n, _, _, hlen, _, _⟩ := DataW.trod_struct Tryd.underlying34 hf0
  simp only [Value.cells] at hf0 hlen
  have hC : Tryd.prog.cellsOf 34 = 20 := by kernel_rfl
  rw [hC] at hlen
  obtain ⟨e, he, hw⟩ := op6_of_trod hlen hf0
  refine ⟨e, ?_, hw⟩
  congr 1
  apply Array.ext'
  rw [he]
end
theorem run_build9 (w : World) : (Instr.build 23 #[(0, .int .u8 9)]).run Tryd.prog w = .ok (.agg (bcells (9 :: zeros 15)).toArray) w := by kernel_rfl
set_option maxRecDepth 100000 in
set_option maxHeartbeats 8000000 in
theorem walk_SealBackN (w : World) (hTB : TB w) (a : Op6) (ha : op6W w a) (b : Op6) (hb : op6W w b) :
    Calls Tryd.prog 4 #[.bool false, .agg (op6C a).toArray, .agg (op6C b).toArray] w fun e w' => e = .returned (.bool true) ∧ Below w.heap.size w w' := by
  obtain ⟨na, hna⟩ : ∃ n, a.da.length = n := ⟨_, rfl⟩
  obtain ⟨nb, hnb⟩ : ∃ n, b.da.length = n := ⟨_, rfl⟩
  have HNA := Lib.hid hna
  have HNB := Lib.hid hnb
  have HWA := Lib.hid ha
  have HWB := Lib.hid hb
  have T0 := Lib.hid hTB
  have HDA := Lib.hid (show (op6C a)[19]? = some (.slice a.A na a.c) by rw [← hna]; exact op6C_da ha)
  have HDB := Lib.hid (show (op6C b)[19]? = some (.slice b.A nb b.c) by rw [← hnb]; exact op6C_da hb)
  have A0 := Lib.hid ((CB.new w 34 (op6C a)).alloc (.cells (op6C b).toArray 34))
  have B0 := Lib.hid (CB.new1 w (.cells (op6C a).toArray 34) 34 (op6C b))
  have G0 := Lib.hid (grown_trans' (grown_alloc w (.cells (op6C a).toArray 34) none) (grown_alloc _ (.cells (op6C b).toArray 34) none))
  have hsz : w.heap.size + 2 = ((w.alloc (.cells (op6C a).toArray 34)).alloc (.cells (op6C b).toArray 34)).heap.size := by rw [World.size_alloc, World.size_alloc]
  have HSZ := Lib.hid hsz
  have qa2 := A0.out.at_ (op6C_u a)
  have qa9 := A0.out.at_ HDA.out
  have qb2 := B0.out.at_ (op6C_u b)
  have qb9 := B0.out.at_ HDB.out
  have HPA := Lib.hid (show ∀ x, a.A = some x → a.da = [] ∨ x.block < w.heap.size from fun x hx => ha.r.lt_of x hx)
  have HPB := Lib.hid (show ∀ x, b.A = some x → b.da = [] ∨ x.block < w.heap.size from fun x hx => hb.r.lt_of x hx)
  clear hna hnb ha hb hTB hsz
  have TK0 := Lib.hid True.intro
  by_cases hla : 2000 < na
  · have hni : (2000 : Int) < (na : Int) := by omega
    clear hla
    go_enter Tryd.func4, Tryd.ntmps4
    go_wp2_with (first
      | (go_at_call 9; refine (sspeaks_any _).mono ?_; rintro e w1 ⟨rfl, g⟩; have G1 := Lib.hid (grown_trans' G0.out g); have A1 := Lib.hid (A0.out.kept g); have B1 := Lib.hid (B0.out.kept g); clear qa2 qa9 qb2 qb9; have qa2 := A1.out.at_ (op6C_u a); have qa9 := A1.out.at_ HDA.out; have qb2 := B1.out.at_ (op6C_u b); have qb9 := B1.out.at_ HDB.out; clear g))
    go_ret
    exact ⟨rfl, below_of_none G1.out⟩
  by_cases hlb : 2000 < nb
  · have hni : ¬ (2000 : Int) < (na : Int) := by omega
    have hmi : (2000 : Int) < (nb : Int) := by omega
    clear hla hlb
    go_enter Tryd.func4, Tryd.ntmps4
    go_wp2_with (first
      | (go_at_call 9; refine (sspeaks_any _).mono ?_; rintro e w1 ⟨rfl, g⟩; have G1 := Lib.hid (grown_trans' G0.out g); have A1 := Lib.hid (A0.out.kept g); have B1 := Lib.hid (B0.out.kept g); clear qa2 qa9 qb2 qb9; have qa2 := A1.out.at_ (op6C_u a); have qa9 := A1.out.at_ HDA.out; have qb2 := B1.out.at_ (op6C_u b); have qb9 := B1.out.at_ HDB.out; clear g))
    go_ret
    exact ⟨rfl, below_of_none G1.out⟩
  have hni : ¬ (2000 : Int) < (na : Int) := by omega
  have hmi : ¬ (2000 : Int) < (nb : Int) := by omega
  have HLA := Lib.hid (show na ≤ 2000 by omega)
  have HLB := Lib.hid (show nb ≤ 2000 by omega)
  clear hla hlb
  obtain ⟨bx, hbx⟩ : ∃ l, boxS a.ky a.u 0 a.da = l := ⟨_, rfl⟩
  obtain ⟨by_, hby⟩ : ∃ l, boxS b.ky b.u (0 + 1) b.da = l := ⟨_, rfl⟩
  obtain ⟨nx, hnx⟩ : ∃ n, bx.length = n := ⟨_, rfl⟩
  obtain ⟨ny_, hny⟩ : ∃ n, by_.length = n := ⟨_, rfl⟩
  have HBx := Lib.hid hbx
  have HBy_ := Lib.hid hby
  have HxL := Lib.hid hnx
  have Hy_L := Lib.hid hny
  have HOx := Lib.hid (show openT a.ky a.u bx = some a.da by rw [← hbx]; exact openT_box _ _ _ _ (by omega) (by rw [HNA.out]; exact HLA.out))
  have HOy_ := Lib.hid (show openT b.ky b.u by_ = some b.da by rw [← hby]; exact openT_box _ _ _ _ (by omega) (by rw [HNB.out]; exact HLB.out))
  have hxy : (bx == by_) = false := beq_false_of_ne (fun e => by
    have h1 : wide8 0 = wide8 (0 + 1) := by rw [← boxS_num a.ky a.u 0 a.da, ← boxS_num b.ky b.u (0 + 1) b.da, hbx, hby, e]
    have h2 : numOf (wide8 0) = numOf (wide8 (0 + 1)) := by rw [h1]
    rw [numOf_wide 0 (by omega), numOf_wide (0 + 1) (by omega)] at h2
    omega)
  clear hbx hby hnx hny
  go_enter Tryd.func4, Tryd.ntmps4
  go_wp2_with (first
    | (go_at_call 9; have hx := TK0; clear hx; refine (sspeaks_any _).mono ?_; rintro e w1 ⟨rfl, g⟩; have G1 := Lib.hid (grown_trans' G0.out g); have A1 := Lib.hid (A0.out.kept g); have B1 := Lib.hid (B0.out.kept g); clear qa2 qa9 qb2 qb9; have qa2 := A1.out.at_ (op6C_u a); have qa9 := A1.out.at_ HDA.out; have qb2 := B1.out.at_ (op6C_u b); have qb9 := B1.out.at_ HDB.out; have G1w := Lib.hid (show w.heap.size + 2 ≤ w1.heap.size by rw [HSZ.out]; exact g.size); clear g TK0; have TK1 := Lib.hid True.intro)
    | (have hx := TK1; clear hx; refine wpList_buildV (ps := #[(0, .int .u8 9)]) rfl rfl (by first | rfl | go_simp) (run_build9 _) ?_; clear TK1; have TK2 := Lib.hid True.intro)
    | (go_at_call 11; have hx := TK2; clear hx; refine (snewS_any (9 :: zeros 15) rfl _).mono ?_; rintro e w2 ⟨rfl, s2, g⟩; obtain ⟨s, hs⟩ : ∃ s, w1.heap.size + 1 = s := ⟨_, rfl⟩; rw [hs] at s2 ⊢; have HSW := Lib.hid (show w.heap.size + 2 < s by have := G1w.out; omega); have S2 := Lib.hid s2; have G2 := Lib.hid (grown_trans' G1.out g); have A2 := Lib.hid (A1.out.kept g); have B2 := Lib.hid (B1.out.kept g); clear qa2 qa9 qb2 qb9; have qa2 := A2.out.at_ (op6C_u a); have qa9 := A2.out.at_ HDA.out; have qb2 := B2.out.at_ (op6C_u b); have qb9 := B2.out.at_ HDB.out; clear g s2 hs; clear TK2; have TK3 := Lib.hid True.intro)
    | (have hx := TK3; clear hx; refine wpList_loadC (off := 3) (p := bcells a.ky) aggKy rfl (.tmp 37) rfl A2.out (op6C_key HWA.out) (by rw [op6C_len HWA.out]; omega) (by first | rfl | go_simp) ?_; clear TK3; have TK4 := Lib.hid True.intro)
    | (go_at_call 15; have hx := TK4; clear hx; refine (sealS_any _ _ _ _ _ S2.out (T0.out.grown G2.out (fun e => by cases e)) (by have := HSW.out; omega) a.ky a.u a.A a.da na a.c HWA.out.lk HNA.out (HWA.out.r.keptS G2.out) (fun z hz => (HPA.out z hz).imp id (fun q => by have := HSW.out; omega)) HLA.out (by omega)).mono ?_; rintro e w3 ⟨v, rfl, o, sn, g⟩; rw [HBx.out] at o; obtain ⟨Ax, cx, rfl, rb, hbx⟩ := o.shape; rw [HxL.out]; have HAx := Lib.hid (show ∀ z, Ax = some z → z.block ≠ s from fun z hz => by have := hbx z hz; have := S2.out.2.lt; omega); have Rx := Lib.hid rb; have S3 := Lib.hid sn; have G3 := Lib.hid (none_new G2.out g (by have := HSW.out; omega)); have A3 := Lib.hid (A2.out.grown g (by have := HSW.out; omega)); have B3 := Lib.hid (B2.out.grown g (by have := HSW.out; omega)); clear qa2 qa9 qb2 qb9; have qa2 := A3.out.at_ (op6C_u a); have qa9 := A3.out.at_ HDA.out; have qb2 := B3.out.at_ (op6C_u b); have qb9 := B3.out.at_ HDB.out; clear o sn g rb hbx; clear TK4; have TK5 := Lib.hid True.intro)
    | (have hx := TK5; clear hx; refine wpList_loadC (off := 3) (p := bcells b.ky) aggKy rfl (.tmp 48) rfl B3.out (op6C_key HWB.out) (by rw [op6C_len HWB.out]; omega) (by first | rfl | go_simp) ?_; clear TK5; have TK6 := Lib.hid True.intro)
    | (go_at_call 15; have hx := TK6; clear hx; refine (sealS_any _ _ _ _ _ S3.out (T0.out.grown G3.out (fun e => by cases e)) (by have := HSW.out; omega) b.ky b.u b.A b.da nb b.c HWB.out.lk HNB.out (HWB.out.r.keptS G3.out) (fun z hz => (HPB.out z hz).imp id (fun q => by have := HSW.out; omega)) HLB.out (by omega)).mono ?_; rintro e w4 ⟨v, rfl, o, sn, g⟩; rw [HBy_.out] at o; obtain ⟨Ay_, cy_, rfl, rb, hby_⟩ := o.shape; rw [Hy_L.out]; have HAy_ := Lib.hid (show ∀ z, Ay_ = some z → z.block ≠ s from fun z hz => by have := hby_ z hz; have := S3.out.2.lt; omega); have Ry_ := Lib.hid rb; have S4 := Lib.hid sn; have G4 := Lib.hid (none_new G3.out g (by have := HSW.out; omega)); have Rx3 := Lib.hid (Rx.out.apartS g (fun z hz => .inr (fun e => HAx.out z hz (by injection e with e; exact e.symm)))); have A4 := Lib.hid (A3.out.grown g (by have := HSW.out; omega)); have B4 := Lib.hid (B3.out.grown g (by have := HSW.out; omega)); clear qa2 qa9 qb2 qb9; have qa2 := A4.out.at_ (op6C_u a); have qa9 := A4.out.at_ HDA.out; have qb2 := B4.out.at_ (op6C_u b); have qb9 := B4.out.at_ HDB.out; clear o sn g rb hby_; clear TK6; have TK7 := Lib.hid True.intro)
    | (have hx := TK7; clear hx; refine wpList_loadC (off := 3) (p := bcells a.ky) aggKy rfl (.tmp 59) rfl A4.out (op6C_key HWA.out) (by rw [op6C_len HWA.out]; omega) (by first | rfl | go_simp) ?_; clear TK7; have TK8 := Lib.hid True.intro)
    | (go_at_call 18; have hx := TK8; clear hx; refine (openSN_any _ _ _ _ _ S4.out (T0.out.grown G4.out (fun e => by cases e)) a.ky a.u Ax bx nx cx HWA.out.lk HxL.out Rx3.out).mono ?_; rw [HOx.out]; rintro e w5 ⟨g, Ap, cp, rfl, o⟩; rw [HNA.out] at o ⊢; have S5 := Lib.hid (show SN w5 s (9 :: zeros 15) 0 2 from ⟨S4.out.1, S4.out.2.kept g⟩); have G5 := Lib.hid (grown_trans' G4.out g); have Pp := Lib.hid (ownB_rb o); have A5 := Lib.hid (A4.out.kept g); have B5 := Lib.hid (B4.out.kept g); clear qa2 qa9 qb2 qb9; have qa2 := A5.out.at_ (op6C_u a); have qa9 := A5.out.at_ HDA.out; have qb2 := B5.out.at_ (op6C_u b); have qb9 := B5.out.at_ HDB.out; have Ry5 := Lib.hid (Ry_.out.keptS g); have G45 := Lib.hid g; clear o g; clear TK8; have TK9 := Lib.hid True.intro)
    | (have hx := TK9; clear hx; refine wpList_loadC (off := 3) (p := bcells b.ky) aggKy rfl (.tmp 69) rfl B5.out (op6C_key HWB.out) (by rw [op6C_len HWB.out]; omega) (by first | rfl | go_simp) ?_; clear TK9; have TK10 := Lib.hid True.intro)
    | (go_at_call 18; have hx := TK10; clear hx; refine (openSN_any _ _ _ _ _ S5.out (T0.out.grown G5.out (fun e => by cases e)) b.ky b.u Ay_ by_ ny_ cy_ HWB.out.lk Hy_L.out Ry5.out).mono ?_; rw [HOy_.out]; rintro e w6 ⟨g, Ar, cr, rfl, o⟩; rw [HNB.out] at o ⊢; have S6 := Lib.hid (show SN w6 s (9 :: zeros 15) 0 2 from ⟨S5.out.1, S5.out.2.kept g⟩); have G6 := Lib.hid (grown_trans' G5.out g); have Pr := Lib.hid (ownB_rb o); have A6 := Lib.hid (A5.out.kept g); have B6 := Lib.hid (B5.out.kept g); clear qa2 qa9 qb2 qb9; have qa2 := A6.out.at_ (op6C_u a); have qa9 := A6.out.at_ HDA.out; have qb2 := B6.out.at_ (op6C_u b); have qb9 := B6.out.at_ HDB.out; have s1 := run_strB byteT Tryd.underlying9 (Pp.out.keptS g); have s2 := run_strB byteT Tryd.underlying9 (HWA.out.r.keptS (grown_trans' G5.out g)); have s3 := run_strB byteT Tryd.underlying9 (ownB_rb o); have s4 := run_strB byteT Tryd.underlying9 (HWB.out.r.keptS (grown_trans' G5.out g)); have s5 := run_strB byteT Tryd.underlying9 (Rx3.out.keptS (grown_trans' G45.out g)); have s6 := run_strB byteT Tryd.underlying9 (Ry_.out.keptS (grown_trans' G45.out g)); rw [HNA.out] at s1 s2; rw [HNB.out] at s3 s4; rw [HxL.out] at s5; rw [Hy_L.out] at s6; clear o g; clear TK10; have TK11 := Lib.hid True.intro))
  go_ret
  exact ⟨rfl, below_of_none G6.out⟩
theorem openS_box (T : List Te) (key : List UInt8) (u : Int) (i : Nat) (t : Te) (hT : T[i]? = some t) (hi : i < 18446744073709551616) : openS T key u (boxN i) = if t.1 = key ∧ t.2.1 = u then some t.2.2 else none := by
  unfold openS
  rw [if_pos ⟨boxN_len i, rfl⟩]
  have h1 : numOf ((boxN i).drop 1) = i := numOf_wide i hi
  rw [h1, hT]
theorem OwnB.cells_ {w : World} {base : Nat} {e : TypeId} {v : Value} {l : List UInt8} (h : OwnB w base e v l) (hl : 0 < l.length) : ∃ g c cs, v = .slice (some ⟨g, 0, none⟩) l.length c ∧ CB w g e cs := by
  rcases h.2 with ⟨rfl, h0⟩ | ⟨g, cap, cur, rfl, hb, hg, hc, hm, hcs, ht⟩
  · omega
  · exact ⟨g, cap, cur.toList, rfl, by show w.heap[g]? = _; rw [hg]⟩
set_option maxRecDepth 100000 in
set_option maxHeartbeats 8000000 in
theorem walk_SealBackSA (w : World) (hTB : TB w) (a : Op6) (ha : op6W w a) (b : Op6) (hb : op6W w b) (hky : a.ky ≠ b.ky) :
    Calls Tryd.prog 4 #[.bool true, .agg (op6C a).toArray, .agg (op6C b).toArray] w fun e w' => e = .returned (.bool true) ∧ Below w.heap.size w w' := by
  obtain ⟨na, hna⟩ : ∃ n, a.da.length = n := ⟨_, rfl⟩
  obtain ⟨nb, hnb⟩ : ∃ n, b.da.length = n := ⟨_, rfl⟩
  have HNA := Lib.hid hna
  have HNB := Lib.hid hnb
  have HWA := Lib.hid ha
  have HWB := Lib.hid hb
  have T0 := Lib.hid hTB
  have HDA := Lib.hid (show (op6C a)[19]? = some (.slice a.A na a.c) by rw [← hna]; exact op6C_da ha)
  have HDB := Lib.hid (show (op6C b)[19]? = some (.slice b.A nb b.c) by rw [← hnb]; exact op6C_da hb)
  have A0 := Lib.hid ((CB.new w 34 (op6C a)).alloc (.cells (op6C b).toArray 34))
  have B0 := Lib.hid (CB.new1 w (.cells (op6C a).toArray 34) 34 (op6C b))
  have G0 := Lib.hid (grown_trans' (grown_alloc w (.cells (op6C a).toArray 34) none) (grown_alloc _ (.cells (op6C b).toArray 34) none))
  have hsz : w.heap.size + 2 = ((w.alloc (.cells (op6C a).toArray 34)).alloc (.cells (op6C b).toArray 34)).heap.size := by rw [World.size_alloc, World.size_alloc]
  have HSZ := Lib.hid hsz
  have qa2 := A0.out.at_ (op6C_u a)
  have qa9 := A0.out.at_ HDA.out
  have qb2 := B0.out.at_ (op6C_u b)
  have qb9 := B0.out.at_ HDB.out
  have HPA := Lib.hid (show ∀ x, a.A = some x → a.da = [] ∨ x.block < w.heap.size from fun x hx => ha.r.lt_of x hx)
  have HPB := Lib.hid (show ∀ x, b.A = some x → b.da = [] ∨ x.block < w.heap.size from fun x hx => hb.r.lt_of x hx)
  clear hna hnb ha hb hTB hsz
  have TK0 := Lib.hid True.intro
  by_cases hla : 2000 < na
  · have hni : (2000 : Int) < (na : Int) := by omega
    clear hla
    go_enter Tryd.func4, Tryd.ntmps4
    go_wp2_with (first
      | (go_at_call 9; refine (sspeaks_any _).mono ?_; rintro e w1 ⟨rfl, g⟩; have G1 := Lib.hid (grown_trans' G0.out g); have A1 := Lib.hid (A0.out.kept g); have B1 := Lib.hid (B0.out.kept g); clear qa2 qa9 qb2 qb9; have qa2 := A1.out.at_ (op6C_u a); have qa9 := A1.out.at_ HDA.out; have qb2 := B1.out.at_ (op6C_u b); have qb9 := B1.out.at_ HDB.out; clear g))
    go_ret
    exact ⟨rfl, below_of_none G1.out⟩
  by_cases hlb : 2000 < nb
  · have hni : ¬ (2000 : Int) < (na : Int) := by omega
    have hmi : (2000 : Int) < (nb : Int) := by omega
    clear hla hlb
    go_enter Tryd.func4, Tryd.ntmps4
    go_wp2_with (first
      | (go_at_call 9; refine (sspeaks_any _).mono ?_; rintro e w1 ⟨rfl, g⟩; have G1 := Lib.hid (grown_trans' G0.out g); have A1 := Lib.hid (A0.out.kept g); have B1 := Lib.hid (B0.out.kept g); clear qa2 qa9 qb2 qb9; have qa2 := A1.out.at_ (op6C_u a); have qa9 := A1.out.at_ HDA.out; have qb2 := B1.out.at_ (op6C_u b); have qb9 := B1.out.at_ HDB.out; clear g))
    go_ret
    exact ⟨rfl, below_of_none G1.out⟩
  have hni : ¬ (2000 : Int) < (na : Int) := by omega
  have hmi : ¬ (2000 : Int) < (nb : Int) := by omega
  have HLA := Lib.hid (show na ≤ 2000 by omega)
  have HLB := Lib.hid (show nb ≤ 2000 by omega)
  clear hla hlb
  obtain ⟨bx, hbx⟩ : ∃ l, boxN 0 = l := ⟨_, rfl⟩
  obtain ⟨by', hby⟩ : ∃ l, boxN 1 = l := ⟨_, rfl⟩
  have HBbx := Lib.hid hbx
  have HBby := Lib.hid hby
  have HbxL := Lib.hid (show bx.length = 9 by rw [← hbx, boxN_len])
  have HbyL := Lib.hid (show by'.length = 9 by rw [← hby, boxN_len])
  have HObx := Lib.hid (show openS [(a.ky, a.u, a.da), (b.ky, b.u, b.da)] a.ky a.u bx = some a.da by rw [← hbx, openS_box _ _ _ 0 (a.ky, a.u, a.da) rfl (by omega), if_pos ⟨rfl, rfl⟩])
  have HOby := Lib.hid (show openS [(a.ky, a.u, a.da), (b.ky, b.u, b.da)] b.ky b.u by' = some b.da by rw [← hby, openS_box _ _ _ 1 (b.ky, b.u, b.da) rfl (by omega), if_pos ⟨rfl, rfl⟩])
  have HPL := Lib.hid (show ∀ t ∈ [(a.ky, a.u, a.da), (b.ky, b.u, b.da)], t.2.2.length ≤ 100000 from fun t ht => by
    rcases List.mem_cons.1 ht with rfl | ht
    · have := HNA.out; have := HLA.out; simp only; omega
    · rw [List.mem_singleton.1 ht]; have := HNB.out; have := HLB.out; simp only; omega)
  have hxy : (bx == by') = false := beq_false_of_ne (fun e => by
    have := boxN_inj (n := 0) (m := 1) (by omega) (by omega) (by rw [hbx, hby, e])
    omega)
  have HCM := Lib.hid (show ∀ w, (binOp .eql 23 (.agg (bcells a.ky).toArray) (.agg (bcells b.ky).toArray)).run Tryd.prog w = .ok (.bool false) w from fun w => by rw [run_eqlK HWA.out.lk HWB.out.lk, beq_false_of_ne hky])
  have HOz := Lib.hid (show openS [(a.ky, a.u, a.da), (b.ky, b.u, b.da)] b.ky b.u bx = none by rw [← hbx, openS_box _ _ _ 0 (a.ky, a.u, a.da) rfl (by omega), if_neg (fun h => hky h.1)])
  clear hbx hby hky
  go_enter Tryd.func4, Tryd.ntmps4
  go_wp2_with (first
    | (go_at_call 9; have hx := TK0; clear hx; refine (sspeaks_any _).mono ?_; rintro e w1 ⟨rfl, g⟩; have G1 := Lib.hid (grown_trans' G0.out g); have A1 := Lib.hid (A0.out.kept g); have B1 := Lib.hid (B0.out.kept g); clear qa2 qa9 qb2 qb9; have qa2 := A1.out.at_ (op6C_u a); have qa9 := A1.out.at_ HDA.out; have qb2 := B1.out.at_ (op6C_u b); have qb9 := B1.out.at_ HDB.out; have G1w := Lib.hid (show w.heap.size + 2 ≤ w1.heap.size by rw [HSZ.out]; exact g.size); clear g TK0; have TK1 := Lib.hid True.intro)
    | (have hx := TK1; clear hx; refine wpList_buildV (ps := #[(0, .int .u8 9)]) rfl rfl (by first | rfl | go_simp) (run_build9 _) ?_; clear TK1; have TK2 := Lib.hid True.intro)
    | (go_at_call 11; have hx := TK2; clear hx; refine (snew_any (9 :: zeros 15) _).mono ?_; rintro e w2 ⟨rfl, s2, g⟩; obtain ⟨s, hs⟩ : ∃ s, w1.heap.size + 1 = s := ⟨_, rfl⟩; rw [hs] at s2 ⊢; have HSW := Lib.hid (show w.heap.size + 2 < s by have := G1w.out; omega); have S2 := Lib.hid s2; have G2 := Lib.hid (grown_trans' G1.out g); have A2 := Lib.hid (A1.out.kept g); have B2 := Lib.hid (B1.out.kept g); clear qa2 qa9 qb2 qb9; have qa2 := A2.out.at_ (op6C_u a); have qa9 := A2.out.at_ HDA.out; have qb2 := B2.out.at_ (op6C_u b); have qb9 := B2.out.at_ HDB.out; clear g s2 hs; clear TK2; have TK3 := Lib.hid True.intro)
    | (have hx := TK3; clear hx; refine wpList_loadC (off := 3) (p := bcells a.ky) aggKy rfl (.tmp 37) rfl A2.out (op6C_key HWA.out) (by rw [op6C_len HWA.out]; omega) (by first | rfl | go_simp) ?_; clear TK3; have TK4 := Lib.hid True.intro)
    | (go_at_call 15; have hx := TK4; clear hx; refine (seal_any _ _ _ _ _ _ S2.out (a.ky, a.u, a.da) a.A na a.c HWA.out.lk HNA.out (HWA.out.r.keptS G2.out) (fun z hz => (HPA.out z hz).imp id (fun q => ⟨by have := HSW.out; omega, fun e => by have := (S2.out.rlt _ e).1; have := HSW.out; omega⟩)) HLA.out (by simp)).mono ?_; rintro e w3 ⟨v, r3, rfl, o, s3, wr, -⟩; have o := (show OwnB w3 w2.heap.size 5 v bx from (by have o2 := o; rw [show List.length ([] : List Te) = 0 from rfl, HBbx.out] at o2; exact o2)); obtain ⟨gbx, cbx, csbx, rfl, hcbx⟩ := o.cells_ (by rw [HbxL.out]; omega); rw [HbxL.out] at o ⊢; have Rbx := Lib.hid (ownB_rb o); have S3 := Lib.hid (show SS w3 s s r3 [(a.ky, a.u, a.da)] 0 from s3); have Cbx := Lib.hid hcbx; have G3 := Lib.hid (wrs_new2 G2.out wr (by have := HSW.out; omega) (fun z hz => by have := (S2.out.rlt z hz).1; have := HSW.out; omega)); have A3 := Lib.hid (A2.out.wrs wr (S2.out.off_cells A2.out (by decide) (by decide)).1 (S2.out.off_cells A2.out (by decide) (by decide)).2); have B3 := Lib.hid (B2.out.wrs wr (S2.out.off_cells B2.out (by decide) (by decide)).1 (S2.out.off_cells B2.out (by decide) (by decide)).2); clear qa2 qa9 qb2 qb9; have qa2 := A3.out.at_ (op6C_u a); have qa9 := A3.out.at_ HDA.out; have qb2 := B3.out.at_ (op6C_u b); have qb9 := B3.out.at_ HDB.out; clear o s3 wr hcbx; clear TK4; have TK5 := Lib.hid True.intro)
    | (have hx := TK5; clear hx; refine wpList_loadC (off := 3) (p := bcells b.ky) aggKy rfl (.tmp 48) rfl B3.out (op6C_key HWB.out) (by rw [op6C_len HWB.out]; omega) (by first | rfl | go_simp) ?_; clear TK5; have TK6 := Lib.hid True.intro)
    | (go_at_call 15; have hx := TK6; clear hx; refine (seal_any _ _ _ _ _ _ S3.out (b.ky, b.u, b.da) b.A nb b.c HWB.out.lk HNB.out (HWB.out.r.keptS G3.out) (fun z hz => (HPB.out z hz).imp id (fun q => ⟨by have := HSW.out; omega, fun e => by have := (S3.out.rlt _ e).1; have := HSW.out; omega⟩)) HLB.out (by simp)).mono ?_; rintro e w4 ⟨v, r4, rfl, o, s3, wr, -⟩; have o := (show OwnB w4 w3.heap.size 5 v by' from (by have o2 := o; rw [show List.length [(a.ky, a.u, a.da)] = 1 from rfl, HBby.out] at o2; exact o2)); obtain ⟨gby, cby, csby, rfl, hcby⟩ := o.cells_ (by rw [HbyL.out]; omega); rw [HbyL.out] at o ⊢; have Rby := Lib.hid (ownB_rb o); have S4 := Lib.hid (show SS w4 s s r4 [(a.ky, a.u, a.da), (b.ky, b.u, b.da)] 0 from s3); have Cby := Lib.hid hcby; have G4 := Lib.hid (wrs_new2 G3.out wr (by have := HSW.out; omega) (fun z hz => by have := (S3.out.rlt z hz).1; have := HSW.out; omega)); have HOX := Lib.hid (S3.out.off_cells Cbx.out (by decide) (by decide)); have Rbx4 := Lib.hid ((Rbx.out.wrs wr (fun z hz => .inr (by injection hz with hz; subst hz; exact HOX.out))).more wr.size); have Rby4 := Lib.hid (ownB_rb o); have A4 := Lib.hid (A3.out.wrs wr (S3.out.off_cells A3.out (by decide) (by decide)).1 (S3.out.off_cells A3.out (by decide) (by decide)).2); have B4 := Lib.hid (B3.out.wrs wr (S3.out.off_cells B3.out (by decide) (by decide)).1 (S3.out.off_cells B3.out (by decide) (by decide)).2); clear qa2 qa9 qb2 qb9; have qa2 := A4.out.at_ (op6C_u a); have qa9 := A4.out.at_ HDA.out; have qb2 := B4.out.at_ (op6C_u b); have qb9 := B4.out.at_ HDB.out; clear o s3 wr hcby; clear TK6; have TK7 := Lib.hid True.intro)
    | (have hx := TK7; clear hx; refine wpList_loadC (off := 3) (p := bcells a.ky) aggKy rfl (.tmp 59) rfl A4.out (op6C_key HWA.out) (by rw [op6C_len HWA.out]; omega) (by first | rfl | go_simp) ?_; clear TK7; have TK8 := Lib.hid True.intro)
    | (go_at_call 18; have hx := TK8; clear hx; refine (open_any _ _ _ _ _ _ S4.out a.ky a.u _ bx 9 cbx HWA.out.lk HbxL.out Rbx4.out (by omega) (by simp) HPL.out).mono ?_; rw [HObx.out]; rintro e w5 ⟨g, Ap, cp, rfl, o⟩; rw [HNA.out] at o ⊢; have S5 := Lib.hid (S4.out.none g); have Rbx5 := Lib.hid (Rbx4.out.keptS g); have Rby5 := Lib.hid (Rby4.out.keptS g); have G5 := Lib.hid (grown_trans' G4.out g); have Pp := Lib.hid (ownB_rb o); have A5 := Lib.hid (A4.out.kept g); have B5 := Lib.hid (B4.out.kept g); clear qa2 qa9 qb2 qb9; have qa2 := A5.out.at_ (op6C_u a); have qa9 := A5.out.at_ HDA.out; have qb2 := B5.out.at_ (op6C_u b); have qb9 := B5.out.at_ HDB.out; clear o g; clear TK8; have TK9 := Lib.hid True.intro)
    | (have hx := TK9; clear hx; refine wpList_loadC (off := 3) (p := bcells b.ky) aggKy rfl (.tmp 69) rfl B5.out (op6C_key HWB.out) (by rw [op6C_len HWB.out]; omega) (by first | rfl | go_simp) ?_; clear TK9; have TK10 := Lib.hid True.intro)
    | (go_at_call 18; have hx := TK10; clear hx; refine (open_any _ _ _ _ _ _ S5.out b.ky b.u _ by' 9 cby HWB.out.lk HbyL.out Rby5.out (by omega) (by simp) HPL.out).mono ?_; rw [HOby.out]; rintro e w6 ⟨g, Ar, cr, rfl, o⟩; rw [HNB.out] at o ⊢; have S6 := Lib.hid (S5.out.none g); have Rbx6 := Lib.hid (Rbx5.out.keptS g); have Rby6 := Lib.hid (Rby5.out.keptS g); have G6 := Lib.hid (grown_trans' G5.out g); have Pr := Lib.hid (ownB_rb o); have A6 := Lib.hid (A5.out.kept g); have B6 := Lib.hid (B5.out.kept g); clear qa2 qa9 qb2 qb9; have qa2 := A6.out.at_ (op6C_u a); have qa9 := A6.out.at_ HDA.out; have qb2 := B6.out.at_ (op6C_u b); have qb9 := B6.out.at_ HDB.out; have s1 := run_strB byteT Tryd.underlying9 (Pp.out.keptS g); have s2 := run_strB byteT Tryd.underlying9 (HWA.out.r.keptS G6.out); have s3 := run_strB byteT Tryd.underlying9 (ownB_rb o); have s4 := run_strB byteT Tryd.underlying9 (HWB.out.r.keptS G6.out); have s5 := run_strB byteT Tryd.underlying9 Rbx6.out; have s6 := run_strB byteT Tryd.underlying9 Rby6.out; rw [HNA.out] at s1 s2; rw [HNB.out] at s3 s4; rw [HbxL.out] at s5; rw [HbyL.out] at s6; clear o g; clear TK10; have TK11 := Lib.hid True.intro)
    | (have hx := TK11; clear hx; refine wpList_loadCg (off := 3) (p := bcells a.ky) aggKy (by first | rfl | go_simp) (.tmp 117) rfl A6.out (op6C_key HWA.out) (by rw [op6C_len HWA.out]; omega) (by first | rfl | go_simp) ?_; clear TK11; have TK12 := Lib.hid True.intro)
    | (have hx := TK12; clear hx; refine wpList_loadCg (off := 3) (p := bcells b.ky) aggKy (by first | rfl | go_simp) (.tmp 119) rfl B6.out (op6C_key HWB.out) (by rw [op6C_len HWB.out]; omega) (by first | rfl | go_simp) ?_; clear TK12; have TK13 := Lib.hid True.intro)
    | (have hx := TK13; clear hx; refine wpList_cmpVg (.inl rfl) (by kernel_rfl) (by first | rfl | go_simp) (.tmp 118) (.tmp 120) rfl (by first | rfl | go_simp) (by first | rfl | go_simp) HCM.out ?_; clear TK13; have TK14 := Lib.hid True.intro)
    | (have hx := TK14; clear hx; refine wpList_loadC (off := 3) (p := bcells b.ky) aggKy rfl (.tmp 132) rfl B6.out (op6C_key HWB.out) (by rw [op6C_len HWB.out]; omega) (by first | rfl | go_simp) ?_; clear TK14; have TK15 := Lib.hid True.intro)
    | (go_at_call 18; have hx := TK15; clear hx; refine (open_any _ _ _ _ _ _ S6.out b.ky b.u _ bx 9 cbx HWB.out.lk HbxL.out Rbx6.out (by omega) (by simp) HPL.out).mono ?_; rw [HOz.out]; rintro e w7 ⟨g, rfl⟩; have G7 := Lib.hid (grown_trans' G6.out g); clear g; clear TK15; have TK16 := Lib.hid True.intro))
  go_ret
  exact ⟨rfl, below_of_none G7.out⟩
set_option maxRecDepth 100000 in
set_option maxHeartbeats 8000000 in
theorem walk_SealBackSB (w : World) (hTB : TB w) (a : Op6) (ha : op6W w a) (b : Op6) (hb : op6W w b) (hky : a.ky = b.ky) (hu : a.u ≠ b.u) :
    Calls Tryd.prog 4 #[.bool true, .agg (op6C a).toArray, .agg (op6C b).toArray] w fun e w' => e = .returned (.bool true) ∧ Below w.heap.size w w' := by
  obtain ⟨na, hna⟩ : ∃ n, a.da.length = n := ⟨_, rfl⟩
  obtain ⟨nb, hnb⟩ : ∃ n, b.da.length = n := ⟨_, rfl⟩
  have HNA := Lib.hid hna
  have HNB := Lib.hid hnb
  have HWA := Lib.hid ha
  have HWB := Lib.hid hb
  have T0 := Lib.hid hTB
  have HDA := Lib.hid (show (op6C a)[19]? = some (.slice a.A na a.c) by rw [← hna]; exact op6C_da ha)
  have HDB := Lib.hid (show (op6C b)[19]? = some (.slice b.A nb b.c) by rw [← hnb]; exact op6C_da hb)
  have A0 := Lib.hid ((CB.new w 34 (op6C a)).alloc (.cells (op6C b).toArray 34))
  have B0 := Lib.hid (CB.new1 w (.cells (op6C a).toArray 34) 34 (op6C b))
  have G0 := Lib.hid (grown_trans' (grown_alloc w (.cells (op6C a).toArray 34) none) (grown_alloc _ (.cells (op6C b).toArray 34) none))
  have hsz : w.heap.size + 2 = ((w.alloc (.cells (op6C a).toArray 34)).alloc (.cells (op6C b).toArray 34)).heap.size := by rw [World.size_alloc, World.size_alloc]
  have HSZ := Lib.hid hsz
  have qa2 := A0.out.at_ (op6C_u a)
  have qa9 := A0.out.at_ HDA.out
  have qb2 := B0.out.at_ (op6C_u b)
  have qb9 := B0.out.at_ HDB.out
  have HPA := Lib.hid (show ∀ x, a.A = some x → a.da = [] ∨ x.block < w.heap.size from fun x hx => ha.r.lt_of x hx)
  have HPB := Lib.hid (show ∀ x, b.A = some x → b.da = [] ∨ x.block < w.heap.size from fun x hx => hb.r.lt_of x hx)
  clear hna hnb ha hb hTB hsz
  have TK0 := Lib.hid True.intro
  by_cases hla : 2000 < na
  · have hni : (2000 : Int) < (na : Int) := by omega
    clear hla
    go_enter Tryd.func4, Tryd.ntmps4
    go_wp2_with (first
      | (go_at_call 9; refine (sspeaks_any _).mono ?_; rintro e w1 ⟨rfl, g⟩; have G1 := Lib.hid (grown_trans' G0.out g); have A1 := Lib.hid (A0.out.kept g); have B1 := Lib.hid (B0.out.kept g); clear qa2 qa9 qb2 qb9; have qa2 := A1.out.at_ (op6C_u a); have qa9 := A1.out.at_ HDA.out; have qb2 := B1.out.at_ (op6C_u b); have qb9 := B1.out.at_ HDB.out; clear g))
    go_ret
    exact ⟨rfl, below_of_none G1.out⟩
  by_cases hlb : 2000 < nb
  · have hni : ¬ (2000 : Int) < (na : Int) := by omega
    have hmi : (2000 : Int) < (nb : Int) := by omega
    clear hla hlb
    go_enter Tryd.func4, Tryd.ntmps4
    go_wp2_with (first
      | (go_at_call 9; refine (sspeaks_any _).mono ?_; rintro e w1 ⟨rfl, g⟩; have G1 := Lib.hid (grown_trans' G0.out g); have A1 := Lib.hid (A0.out.kept g); have B1 := Lib.hid (B0.out.kept g); clear qa2 qa9 qb2 qb9; have qa2 := A1.out.at_ (op6C_u a); have qa9 := A1.out.at_ HDA.out; have qb2 := B1.out.at_ (op6C_u b); have qb9 := B1.out.at_ HDB.out; clear g))
    go_ret
    exact ⟨rfl, below_of_none G1.out⟩
  have hni : ¬ (2000 : Int) < (na : Int) := by omega
  have hmi : ¬ (2000 : Int) < (nb : Int) := by omega
  have HLA := Lib.hid (show na ≤ 2000 by omega)
  have HLB := Lib.hid (show nb ≤ 2000 by omega)
  clear hla hlb
  obtain ⟨bx, hbx⟩ : ∃ l, boxN 0 = l := ⟨_, rfl⟩
  obtain ⟨by', hby⟩ : ∃ l, boxN 1 = l := ⟨_, rfl⟩
  have HBbx := Lib.hid hbx
  have HBby := Lib.hid hby
  have HbxL := Lib.hid (show bx.length = 9 by rw [← hbx, boxN_len])
  have HbyL := Lib.hid (show by'.length = 9 by rw [← hby, boxN_len])
  have HObx := Lib.hid (show openS [(a.ky, a.u, a.da), (b.ky, b.u, b.da)] a.ky a.u bx = some a.da by rw [← hbx, openS_box _ _ _ 0 (a.ky, a.u, a.da) rfl (by omega), if_pos ⟨rfl, rfl⟩])
  have HOby := Lib.hid (show openS [(a.ky, a.u, a.da), (b.ky, b.u, b.da)] b.ky b.u by' = some b.da by rw [← hby, openS_box _ _ _ 1 (b.ky, b.u, b.da) rfl (by omega), if_pos ⟨rfl, rfl⟩])
  have HPL := Lib.hid (show ∀ t ∈ [(a.ky, a.u, a.da), (b.ky, b.u, b.da)], t.2.2.length ≤ 100000 from fun t ht => by
    rcases List.mem_cons.1 ht with rfl | ht
    · have := HNA.out; have := HLA.out; simp only; omega
    · rw [List.mem_singleton.1 ht]; have := HNB.out; have := HLB.out; simp only; omega)
  have hxy : (bx == by') = false := beq_false_of_ne (fun e => by
    have := boxN_inj (n := 0) (m := 1) (by omega) (by omega) (by rw [hbx, hby, e])
    omega)
  have HCM := Lib.hid (show ∀ w, (binOp .eql 23 (.agg (bcells a.ky).toArray) (.agg (bcells b.ky).toArray)).run Tryd.prog w = .ok (.bool true) w from fun w => by rw [run_eqlK HWA.out.lk HWB.out.lk, hky]; simp)
  have HOz := Lib.hid (show openS [(a.ky, a.u, a.da), (b.ky, b.u, b.da)] b.ky b.u bx = none by rw [← hbx, openS_box _ _ _ 0 (a.ky, a.u, a.da) rfl (by omega), if_neg (fun h => hu h.2)])
  have hu1 : (a.u == b.u) = false := by simpa using hu
  clear hbx hby hky hu
  go_enter Tryd.func4, Tryd.ntmps4
  go_wp2_with (first
    | (go_at_call 9; have hx := TK0; clear hx; refine (sspeaks_any _).mono ?_; rintro e w1 ⟨rfl, g⟩; have G1 := Lib.hid (grown_trans' G0.out g); have A1 := Lib.hid (A0.out.kept g); have B1 := Lib.hid (B0.out.kept g); clear qa2 qa9 qb2 qb9; have qa2 := A1.out.at_ (op6C_u a); have qa9 := A1.out.at_ HDA.out; have qb2 := B1.out.at_ (op6C_u b); have qb9 := B1.out.at_ HDB.out; have G1w := Lib.hid (show w.heap.size + 2 ≤ w1.heap.size by rw [HSZ.out]; exact g.size); clear g TK0; have TK1 := Lib.hid True.intro)
    | (have hx := TK1; clear hx; refine wpList_buildV (ps := #[(0, .int .u8 9)]) rfl rfl (by first | rfl | go_simp) (run_build9 _) ?_; clear TK1; have TK2 := Lib.hid True.intro)
    | (go_at_call 11; have hx := TK2; clear hx; refine (snew_any (9 :: zeros 15) _).mono ?_; rintro e w2 ⟨rfl, s2, g⟩; obtain ⟨s, hs⟩ : ∃ s, w1.heap.size + 1 = s := ⟨_, rfl⟩; rw [hs] at s2 ⊢; have HSW := Lib.hid (show w.heap.size + 2 < s by have := G1w.out; omega); have S2 := Lib.hid s2; have G2 := Lib.hid (grown_trans' G1.out g); have A2 := Lib.hid (A1.out.kept g); have B2 := Lib.hid (B1.out.kept g); clear qa2 qa9 qb2 qb9; have qa2 := A2.out.at_ (op6C_u a); have qa9 := A2.out.at_ HDA.out; have qb2 := B2.out.at_ (op6C_u b); have qb9 := B2.out.at_ HDB.out; clear g s2 hs; clear TK2; have TK3 := Lib.hid True.intro)
    | (have hx := TK3; clear hx; refine wpList_loadC (off := 3) (p := bcells a.ky) aggKy rfl (.tmp 37) rfl A2.out (op6C_key HWA.out) (by rw [op6C_len HWA.out]; omega) (by first | rfl | go_simp) ?_; clear TK3; have TK4 := Lib.hid True.intro)
    | (go_at_call 15; have hx := TK4; clear hx; refine (seal_any _ _ _ _ _ _ S2.out (a.ky, a.u, a.da) a.A na a.c HWA.out.lk HNA.out (HWA.out.r.keptS G2.out) (fun z hz => (HPA.out z hz).imp id (fun q => ⟨by have := HSW.out; omega, fun e => by have := (S2.out.rlt _ e).1; have := HSW.out; omega⟩)) HLA.out (by simp)).mono ?_; rintro e w3 ⟨v, r3, rfl, o, s3, wr, -⟩; have o := (show OwnB w3 w2.heap.size 5 v bx from (by have o2 := o; rw [show List.length ([] : List Te) = 0 from rfl, HBbx.out] at o2; exact o2)); obtain ⟨gbx, cbx, csbx, rfl, hcbx⟩ := o.cells_ (by rw [HbxL.out]; omega); rw [HbxL.out] at o ⊢; have Rbx := Lib.hid (ownB_rb o); have S3 := Lib.hid (show SS w3 s s r3 [(a.ky, a.u, a.da)] 0 from s3); have Cbx := Lib.hid hcbx; have G3 := Lib.hid (wrs_new2 G2.out wr (by have := HSW.out; omega) (fun z hz => by have := (S2.out.rlt z hz).1; have := HSW.out; omega)); have A3 := Lib.hid (A2.out.wrs wr (S2.out.off_cells A2.out (by decide) (by decide)).1 (S2.out.off_cells A2.out (by decide) (by decide)).2); have B3 := Lib.hid (B2.out.wrs wr (S2.out.off_cells B2.out (by decide) (by decide)).1 (S2.out.off_cells B2.out (by decide) (by decide)).2); clear qa2 qa9 qb2 qb9; have qa2 := A3.out.at_ (op6C_u a); have qa9 := A3.out.at_ HDA.out; have qb2 := B3.out.at_ (op6C_u b); have qb9 := B3.out.at_ HDB.out; clear o s3 wr hcbx; clear TK4; have TK5 := Lib.hid True.intro)
    | (have hx := TK5; clear hx; refine wpList_loadC (off := 3) (p := bcells b.ky) aggKy rfl (.tmp 48) rfl B3.out (op6C_key HWB.out) (by rw [op6C_len HWB.out]; omega) (by first | rfl | go_simp) ?_; clear TK5; have TK6 := Lib.hid True.intro)
    | (go_at_call 15; have hx := TK6; clear hx; refine (seal_any _ _ _ _ _ _ S3.out (b.ky, b.u, b.da) b.A nb b.c HWB.out.lk HNB.out (HWB.out.r.keptS G3.out) (fun z hz => (HPB.out z hz).imp id (fun q => ⟨by have := HSW.out; omega, fun e => by have := (S3.out.rlt _ e).1; have := HSW.out; omega⟩)) HLB.out (by simp)).mono ?_; rintro e w4 ⟨v, r4, rfl, o, s3, wr, -⟩; have o := (show OwnB w4 w3.heap.size 5 v by' from (by have o2 := o; rw [show List.length [(a.ky, a.u, a.da)] = 1 from rfl, HBby.out] at o2; exact o2)); obtain ⟨gby, cby, csby, rfl, hcby⟩ := o.cells_ (by rw [HbyL.out]; omega); rw [HbyL.out] at o ⊢; have Rby := Lib.hid (ownB_rb o); have S4 := Lib.hid (show SS w4 s s r4 [(a.ky, a.u, a.da), (b.ky, b.u, b.da)] 0 from s3); have Cby := Lib.hid hcby; have G4 := Lib.hid (wrs_new2 G3.out wr (by have := HSW.out; omega) (fun z hz => by have := (S3.out.rlt z hz).1; have := HSW.out; omega)); have HOX := Lib.hid (S3.out.off_cells Cbx.out (by decide) (by decide)); have Rbx4 := Lib.hid ((Rbx.out.wrs wr (fun z hz => .inr (by injection hz with hz; subst hz; exact HOX.out))).more wr.size); have Rby4 := Lib.hid (ownB_rb o); have A4 := Lib.hid (A3.out.wrs wr (S3.out.off_cells A3.out (by decide) (by decide)).1 (S3.out.off_cells A3.out (by decide) (by decide)).2); have B4 := Lib.hid (B3.out.wrs wr (S3.out.off_cells B3.out (by decide) (by decide)).1 (S3.out.off_cells B3.out (by decide) (by decide)).2); clear qa2 qa9 qb2 qb9; have qa2 := A4.out.at_ (op6C_u a); have qa9 := A4.out.at_ HDA.out; have qb2 := B4.out.at_ (op6C_u b); have qb9 := B4.out.at_ HDB.out; clear o s3 wr hcby; clear TK6; have TK7 := Lib.hid True.intro)
    | (have hx := TK7; clear hx; refine wpList_loadC (off := 3) (p := bcells a.ky) aggKy rfl (.tmp 59) rfl A4.out (op6C_key HWA.out) (by rw [op6C_len HWA.out]; omega) (by first | rfl | go_simp) ?_; clear TK7; have TK8 := Lib.hid True.intro)
    | (go_at_call 18; have hx := TK8; clear hx; refine (open_any _ _ _ _ _ _ S4.out a.ky a.u _ bx 9 cbx HWA.out.lk HbxL.out Rbx4.out (by omega) (by simp) HPL.out).mono ?_; rw [HObx.out]; rintro e w5 ⟨g, Ap, cp, rfl, o⟩; rw [HNA.out] at o ⊢; have S5 := Lib.hid (S4.out.none g); have Rbx5 := Lib.hid (Rbx4.out.keptS g); have Rby5 := Lib.hid (Rby4.out.keptS g); have G5 := Lib.hid (grown_trans' G4.out g); have Pp := Lib.hid (ownB_rb o); have A5 := Lib.hid (A4.out.kept g); have B5 := Lib.hid (B4.out.kept g); clear qa2 qa9 qb2 qb9; have qa2 := A5.out.at_ (op6C_u a); have qa9 := A5.out.at_ HDA.out; have qb2 := B5.out.at_ (op6C_u b); have qb9 := B5.out.at_ HDB.out; clear o g; clear TK8; have TK9 := Lib.hid True.intro)
    | (have hx := TK9; clear hx; refine wpList_loadC (off := 3) (p := bcells b.ky) aggKy rfl (.tmp 69) rfl B5.out (op6C_key HWB.out) (by rw [op6C_len HWB.out]; omega) (by first | rfl | go_simp) ?_; clear TK9; have TK10 := Lib.hid True.intro)
    | (go_at_call 18; have hx := TK10; clear hx; refine (open_any _ _ _ _ _ _ S5.out b.ky b.u _ by' 9 cby HWB.out.lk HbyL.out Rby5.out (by omega) (by simp) HPL.out).mono ?_; rw [HOby.out]; rintro e w6 ⟨g, Ar, cr, rfl, o⟩; rw [HNB.out] at o ⊢; have S6 := Lib.hid (S5.out.none g); have Rbx6 := Lib.hid (Rbx5.out.keptS g); have Rby6 := Lib.hid (Rby5.out.keptS g); have G6 := Lib.hid (grown_trans' G5.out g); have Pr := Lib.hid (ownB_rb o); have A6 := Lib.hid (A5.out.kept g); have B6 := Lib.hid (B5.out.kept g); clear qa2 qa9 qb2 qb9; have qa2 := A6.out.at_ (op6C_u a); have qa9 := A6.out.at_ HDA.out; have qb2 := B6.out.at_ (op6C_u b); have qb9 := B6.out.at_ HDB.out; have s1 := run_strB byteT Tryd.underlying9 (Pp.out.keptS g); have s2 := run_strB byteT Tryd.underlying9 (HWA.out.r.keptS G6.out); have s3 := run_strB byteT Tryd.underlying9 (ownB_rb o); have s4 := run_strB byteT Tryd.underlying9 (HWB.out.r.keptS G6.out); have s5 := run_strB byteT Tryd.underlying9 Rbx6.out; have s6 := run_strB byteT Tryd.underlying9 Rby6.out; rw [HNA.out] at s1 s2; rw [HNB.out] at s3 s4; rw [HbxL.out] at s5; rw [HbyL.out] at s6; clear o g; clear TK10; have TK11 := Lib.hid True.intro)
    | (have hx := TK11; clear hx; refine wpList_loadCg (off := 3) (p := bcells a.ky) aggKy (by first | rfl | go_simp) (.tmp 117) rfl A6.out (op6C_key HWA.out) (by rw [op6C_len HWA.out]; omega) (by first | rfl | go_simp) ?_; clear TK11; have TK12 := Lib.hid True.intro)
    | (have hx := TK12; clear hx; refine wpList_loadCg (off := 3) (p := bcells b.ky) aggKy (by first | rfl | go_simp) (.tmp 119) rfl B6.out (op6C_key HWB.out) (by rw [op6C_len HWB.out]; omega) (by first | rfl | go_simp) ?_; clear TK12; have TK13 := Lib.hid True.intro)
    | (have hx := TK13; clear hx; refine wpList_cmpVg (.inl rfl) (by kernel_rfl) (by first | rfl | go_simp) (.tmp 118) (.tmp 120) rfl (by first | rfl | go_simp) (by first | rfl | go_simp) HCM.out ?_; clear TK13; have TK14 := Lib.hid True.intro)
    | (have hx := TK14; clear hx; refine wpList_loadC (off := 3) (p := bcells b.ky) aggKy rfl (.tmp 132) rfl B6.out (op6C_key HWB.out) (by rw [op6C_len HWB.out]; omega) (by first | rfl | go_simp) ?_; clear TK14; have TK15 := Lib.hid True.intro)
    | (go_at_call 18; have hx := TK15; clear hx; refine (open_any _ _ _ _ _ _ S6.out b.ky b.u _ bx 9 cbx HWB.out.lk HbxL.out Rbx6.out (by omega) (by simp) HPL.out).mono ?_; rw [HOz.out]; rintro e w7 ⟨g, rfl⟩; have G7 := Lib.hid (grown_trans' G6.out g); clear g; clear TK15; have TK16 := Lib.hid True.intro))
  go_ret
  exact ⟨rfl, below_of_none G7.out⟩
set_option maxRecDepth 100000 in
set_option maxHeartbeats 8000000 in
theorem walk_SealBackSC (w : World) (hTB : TB w) (a : Op6) (ha : op6W w a) (b : Op6) (hb : op6W w b) (hky : a.ky = b.ky) (hu : a.u = b.u) :
    Calls Tryd.prog 4 #[.bool true, .agg (op6C a).toArray, .agg (op6C b).toArray] w fun e w' => e = .returned (.bool true) ∧ Below w.heap.size w w' := by
  obtain ⟨na, hna⟩ : ∃ n, a.da.length = n := ⟨_, rfl⟩
  obtain ⟨nb, hnb⟩ : ∃ n, b.da.length = n := ⟨_, rfl⟩
  have HNA := Lib.hid hna
  have HNB := Lib.hid hnb
  have HWA := Lib.hid ha
  have HWB := Lib.hid hb
  have T0 := Lib.hid hTB
  have HDA := Lib.hid (show (op6C a)[19]? = some (.slice a.A na a.c) by rw [← hna]; exact op6C_da ha)
  have HDB := Lib.hid (show (op6C b)[19]? = some (.slice b.A nb b.c) by rw [← hnb]; exact op6C_da hb)
  have A0 := Lib.hid ((CB.new w 34 (op6C a)).alloc (.cells (op6C b).toArray 34))
  have B0 := Lib.hid (CB.new1 w (.cells (op6C a).toArray 34) 34 (op6C b))
  have G0 := Lib.hid (grown_trans' (grown_alloc w (.cells (op6C a).toArray 34) none) (grown_alloc _ (.cells (op6C b).toArray 34) none))
  have hsz : w.heap.size + 2 = ((w.alloc (.cells (op6C a).toArray 34)).alloc (.cells (op6C b).toArray 34)).heap.size := by rw [World.size_alloc, World.size_alloc]
  have HSZ := Lib.hid hsz
  have qa2 := A0.out.at_ (op6C_u a)
  have qa9 := A0.out.at_ HDA.out
  have qb2 := B0.out.at_ (op6C_u b)
  have qb9 := B0.out.at_ HDB.out
  have HPA := Lib.hid (show ∀ x, a.A = some x → a.da = [] ∨ x.block < w.heap.size from fun x hx => ha.r.lt_of x hx)
  have HPB := Lib.hid (show ∀ x, b.A = some x → b.da = [] ∨ x.block < w.heap.size from fun x hx => hb.r.lt_of x hx)
  clear hna hnb ha hb hTB hsz
  have TK0 := Lib.hid True.intro
  by_cases hla : 2000 < na
  · have hni : (2000 : Int) < (na : Int) := by omega
    clear hla
    go_enter Tryd.func4, Tryd.ntmps4
    go_wp2_with (first
      | (go_at_call 9; refine (sspeaks_any _).mono ?_; rintro e w1 ⟨rfl, g⟩; have G1 := Lib.hid (grown_trans' G0.out g); have A1 := Lib.hid (A0.out.kept g); have B1 := Lib.hid (B0.out.kept g); clear qa2 qa9 qb2 qb9; have qa2 := A1.out.at_ (op6C_u a); have qa9 := A1.out.at_ HDA.out; have qb2 := B1.out.at_ (op6C_u b); have qb9 := B1.out.at_ HDB.out; clear g))
    go_ret
    exact ⟨rfl, below_of_none G1.out⟩
  by_cases hlb : 2000 < nb
  · have hni : ¬ (2000 : Int) < (na : Int) := by omega
    have hmi : (2000 : Int) < (nb : Int) := by omega
    clear hla hlb
    go_enter Tryd.func4, Tryd.ntmps4
    go_wp2_with (first
      | (go_at_call 9; refine (sspeaks_any _).mono ?_; rintro e w1 ⟨rfl, g⟩; have G1 := Lib.hid (grown_trans' G0.out g); have A1 := Lib.hid (A0.out.kept g); have B1 := Lib.hid (B0.out.kept g); clear qa2 qa9 qb2 qb9; have qa2 := A1.out.at_ (op6C_u a); have qa9 := A1.out.at_ HDA.out; have qb2 := B1.out.at_ (op6C_u b); have qb9 := B1.out.at_ HDB.out; clear g))
    go_ret
    exact ⟨rfl, below_of_none G1.out⟩
  have hni : ¬ (2000 : Int) < (na : Int) := by omega
  have hmi : ¬ (2000 : Int) < (nb : Int) := by omega
  have HLA := Lib.hid (show na ≤ 2000 by omega)
  have HLB := Lib.hid (show nb ≤ 2000 by omega)
  clear hla hlb
  obtain ⟨bx, hbx⟩ : ∃ l, boxN 0 = l := ⟨_, rfl⟩
  obtain ⟨by', hby⟩ : ∃ l, boxN 1 = l := ⟨_, rfl⟩
  have HBbx := Lib.hid hbx
  have HBby := Lib.hid hby
  have HbxL := Lib.hid (show bx.length = 9 by rw [← hbx, boxN_len])
  have HbyL := Lib.hid (show by'.length = 9 by rw [← hby, boxN_len])
  have HObx := Lib.hid (show openS [(a.ky, a.u, a.da), (b.ky, b.u, b.da)] a.ky a.u bx = some a.da by rw [← hbx, openS_box _ _ _ 0 (a.ky, a.u, a.da) rfl (by omega), if_pos ⟨rfl, rfl⟩])
  have HOby := Lib.hid (show openS [(a.ky, a.u, a.da), (b.ky, b.u, b.da)] b.ky b.u by' = some b.da by rw [← hby, openS_box _ _ _ 1 (b.ky, b.u, b.da) rfl (by omega), if_pos ⟨rfl, rfl⟩])
  have HPL := Lib.hid (show ∀ t ∈ [(a.ky, a.u, a.da), (b.ky, b.u, b.da)], t.2.2.length ≤ 100000 from fun t ht => by
    rcases List.mem_cons.1 ht with rfl | ht
    · have := HNA.out; have := HLA.out; simp only; omega
    · rw [List.mem_singleton.1 ht]; have := HNB.out; have := HLB.out; simp only; omega)
  have hxy : (bx == by') = false := beq_false_of_ne (fun e => by
    have := boxN_inj (n := 0) (m := 1) (by omega) (by omega) (by rw [hbx, hby, e])
    omega)
  have HCM := Lib.hid (show ∀ w, (binOp .eql 23 (.agg (bcells a.ky).toArray) (.agg (bcells b.ky).toArray)).run Tryd.prog w = .ok (.bool true) w from fun w => by rw [run_eqlK HWA.out.lk HWB.out.lk, hky]; simp)
  have hu1 : (a.u == b.u) = true := by simpa using hu
  clear hbx hby hky hu
  go_enter Tryd.func4, Tryd.ntmps4
  go_wp2_with (first
    | (go_at_call 9; have hx := TK0; clear hx; refine (sspeaks_any _).mono ?_; rintro e w1 ⟨rfl, g⟩; have G1 := Lib.hid (grown_trans' G0.out g); have A1 := Lib.hid (A0.out.kept g); have B1 := Lib.hid (B0.out.kept g); clear qa2 qa9 qb2 qb9; have qa2 := A1.out.at_ (op6C_u a); have qa9 := A1.out.at_ HDA.out; have qb2 := B1.out.at_ (op6C_u b); have qb9 := B1.out.at_ HDB.out; have G1w := Lib.hid (show w.heap.size + 2 ≤ w1.heap.size by rw [HSZ.out]; exact g.size); clear g TK0; have TK1 := Lib.hid True.intro)
    | (have hx := TK1; clear hx; refine wpList_buildV (ps := #[(0, .int .u8 9)]) rfl rfl (by first | rfl | go_simp) (run_build9 _) ?_; clear TK1; have TK2 := Lib.hid True.intro)
    | (go_at_call 11; have hx := TK2; clear hx; refine (snew_any (9 :: zeros 15) _).mono ?_; rintro e w2 ⟨rfl, s2, g⟩; obtain ⟨s, hs⟩ : ∃ s, w1.heap.size + 1 = s := ⟨_, rfl⟩; rw [hs] at s2 ⊢; have HSW := Lib.hid (show w.heap.size + 2 < s by have := G1w.out; omega); have S2 := Lib.hid s2; have G2 := Lib.hid (grown_trans' G1.out g); have A2 := Lib.hid (A1.out.kept g); have B2 := Lib.hid (B1.out.kept g); clear qa2 qa9 qb2 qb9; have qa2 := A2.out.at_ (op6C_u a); have qa9 := A2.out.at_ HDA.out; have qb2 := B2.out.at_ (op6C_u b); have qb9 := B2.out.at_ HDB.out; clear g s2 hs; clear TK2; have TK3 := Lib.hid True.intro)
    | (have hx := TK3; clear hx; refine wpList_loadC (off := 3) (p := bcells a.ky) aggKy rfl (.tmp 37) rfl A2.out (op6C_key HWA.out) (by rw [op6C_len HWA.out]; omega) (by first | rfl | go_simp) ?_; clear TK3; have TK4 := Lib.hid True.intro)
    | (go_at_call 15; have hx := TK4; clear hx; refine (seal_any _ _ _ _ _ _ S2.out (a.ky, a.u, a.da) a.A na a.c HWA.out.lk HNA.out (HWA.out.r.keptS G2.out) (fun z hz => (HPA.out z hz).imp id (fun q => ⟨by have := HSW.out; omega, fun e => by have := (S2.out.rlt _ e).1; have := HSW.out; omega⟩)) HLA.out (by simp)).mono ?_; rintro e w3 ⟨v, r3, rfl, o, s3, wr, -⟩; have o := (show OwnB w3 w2.heap.size 5 v bx from (by have o2 := o; rw [show List.length ([] : List Te) = 0 from rfl, HBbx.out] at o2; exact o2)); obtain ⟨gbx, cbx, csbx, rfl, hcbx⟩ := o.cells_ (by rw [HbxL.out]; omega); rw [HbxL.out] at o ⊢; have Rbx := Lib.hid (ownB_rb o); have S3 := Lib.hid (show SS w3 s s r3 [(a.ky, a.u, a.da)] 0 from s3); have Cbx := Lib.hid hcbx; have G3 := Lib.hid (wrs_new2 G2.out wr (by have := HSW.out; omega) (fun z hz => by have := (S2.out.rlt z hz).1; have := HSW.out; omega)); have A3 := Lib.hid (A2.out.wrs wr (S2.out.off_cells A2.out (by decide) (by decide)).1 (S2.out.off_cells A2.out (by decide) (by decide)).2); have B3 := Lib.hid (B2.out.wrs wr (S2.out.off_cells B2.out (by decide) (by decide)).1 (S2.out.off_cells B2.out (by decide) (by decide)).2); clear qa2 qa9 qb2 qb9; have qa2 := A3.out.at_ (op6C_u a); have qa9 := A3.out.at_ HDA.out; have qb2 := B3.out.at_ (op6C_u b); have qb9 := B3.out.at_ HDB.out; clear o s3 wr hcbx; clear TK4; have TK5 := Lib.hid True.intro)
    | (have hx := TK5; clear hx; refine wpList_loadC (off := 3) (p := bcells b.ky) aggKy rfl (.tmp 48) rfl B3.out (op6C_key HWB.out) (by rw [op6C_len HWB.out]; omega) (by first | rfl | go_simp) ?_; clear TK5; have TK6 := Lib.hid True.intro)
    | (go_at_call 15; have hx := TK6; clear hx; refine (seal_any _ _ _ _ _ _ S3.out (b.ky, b.u, b.da) b.A nb b.c HWB.out.lk HNB.out (HWB.out.r.keptS G3.out) (fun z hz => (HPB.out z hz).imp id (fun q => ⟨by have := HSW.out; omega, fun e => by have := (S3.out.rlt _ e).1; have := HSW.out; omega⟩)) HLB.out (by simp)).mono ?_; rintro e w4 ⟨v, r4, rfl, o, s3, wr, -⟩; have o := (show OwnB w4 w3.heap.size 5 v by' from (by have o2 := o; rw [show List.length [(a.ky, a.u, a.da)] = 1 from rfl, HBby.out] at o2; exact o2)); obtain ⟨gby, cby, csby, rfl, hcby⟩ := o.cells_ (by rw [HbyL.out]; omega); rw [HbyL.out] at o ⊢; have Rby := Lib.hid (ownB_rb o); have S4 := Lib.hid (show SS w4 s s r4 [(a.ky, a.u, a.da), (b.ky, b.u, b.da)] 0 from s3); have Cby := Lib.hid hcby; have G4 := Lib.hid (wrs_new2 G3.out wr (by have := HSW.out; omega) (fun z hz => by have := (S3.out.rlt z hz).1; have := HSW.out; omega)); have HOX := Lib.hid (S3.out.off_cells Cbx.out (by decide) (by decide)); have Rbx4 := Lib.hid ((Rbx.out.wrs wr (fun z hz => .inr (by injection hz with hz; subst hz; exact HOX.out))).more wr.size); have Rby4 := Lib.hid (ownB_rb o); have A4 := Lib.hid (A3.out.wrs wr (S3.out.off_cells A3.out (by decide) (by decide)).1 (S3.out.off_cells A3.out (by decide) (by decide)).2); have B4 := Lib.hid (B3.out.wrs wr (S3.out.off_cells B3.out (by decide) (by decide)).1 (S3.out.off_cells B3.out (by decide) (by decide)).2); clear qa2 qa9 qb2 qb9; have qa2 := A4.out.at_ (op6C_u a); have qa9 := A4.out.at_ HDA.out; have qb2 := B4.out.at_ (op6C_u b); have qb9 := B4.out.at_ HDB.out; clear o s3 wr hcby; clear TK6; have TK7 := Lib.hid True.intro)
    | (have hx := TK7; clear hx; refine wpList_loadC (off := 3) (p := bcells a.ky) aggKy rfl (.tmp 59) rfl A4.out (op6C_key HWA.out) (by rw [op6C_len HWA.out]; omega) (by first | rfl | go_simp) ?_; clear TK7; have TK8 := Lib.hid True.intro)
    | (go_at_call 18; have hx := TK8; clear hx; refine (open_any _ _ _ _ _ _ S4.out a.ky a.u _ bx 9 cbx HWA.out.lk HbxL.out Rbx4.out (by omega) (by simp) HPL.out).mono ?_; rw [HObx.out]; rintro e w5 ⟨g, Ap, cp, rfl, o⟩; rw [HNA.out] at o ⊢; have S5 := Lib.hid (S4.out.none g); have Rbx5 := Lib.hid (Rbx4.out.keptS g); have Rby5 := Lib.hid (Rby4.out.keptS g); have G5 := Lib.hid (grown_trans' G4.out g); have Pp := Lib.hid (ownB_rb o); have A5 := Lib.hid (A4.out.kept g); have B5 := Lib.hid (B4.out.kept g); clear qa2 qa9 qb2 qb9; have qa2 := A5.out.at_ (op6C_u a); have qa9 := A5.out.at_ HDA.out; have qb2 := B5.out.at_ (op6C_u b); have qb9 := B5.out.at_ HDB.out; clear o g; clear TK8; have TK9 := Lib.hid True.intro)
    | (have hx := TK9; clear hx; refine wpList_loadC (off := 3) (p := bcells b.ky) aggKy rfl (.tmp 69) rfl B5.out (op6C_key HWB.out) (by rw [op6C_len HWB.out]; omega) (by first | rfl | go_simp) ?_; clear TK9; have TK10 := Lib.hid True.intro)
    | (go_at_call 18; have hx := TK10; clear hx; refine (open_any _ _ _ _ _ _ S5.out b.ky b.u _ by' 9 cby HWB.out.lk HbyL.out Rby5.out (by omega) (by simp) HPL.out).mono ?_; rw [HOby.out]; rintro e w6 ⟨g, Ar, cr, rfl, o⟩; rw [HNB.out] at o ⊢; have S6 := Lib.hid (S5.out.none g); have Rbx6 := Lib.hid (Rbx5.out.keptS g); have Rby6 := Lib.hid (Rby5.out.keptS g); have G6 := Lib.hid (grown_trans' G5.out g); have Pr := Lib.hid (ownB_rb o); have A6 := Lib.hid (A5.out.kept g); have B6 := Lib.hid (B5.out.kept g); clear qa2 qa9 qb2 qb9; have qa2 := A6.out.at_ (op6C_u a); have qa9 := A6.out.at_ HDA.out; have qb2 := B6.out.at_ (op6C_u b); have qb9 := B6.out.at_ HDB.out; have s1 := run_strB byteT Tryd.underlying9 (Pp.out.keptS g); have s2 := run_strB byteT Tryd.underlying9 (HWA.out.r.keptS G6.out); have s3 := run_strB byteT Tryd.underlying9 (ownB_rb o); have s4 := run_strB byteT Tryd.underlying9 (HWB.out.r.keptS G6.out); have s5 := run_strB byteT Tryd.underlying9 Rbx6.out; have s6 := run_strB byteT Tryd.underlying9 Rby6.out; rw [HNA.out] at s1 s2; rw [HNB.out] at s3 s4; rw [HbxL.out] at s5; rw [HbyL.out] at s6; clear o g; clear TK10; have TK11 := Lib.hid True.intro)
    | (have hx := TK11; clear hx; refine wpList_loadCg (off := 3) (p := bcells a.ky) aggKy (by first | rfl | go_simp) (.tmp 117) rfl A6.out (op6C_key HWA.out) (by rw [op6C_len HWA.out]; omega) (by first | rfl | go_simp) ?_; clear TK11; have TK12 := Lib.hid True.intro)
    | (have hx := TK12; clear hx; refine wpList_loadCg (off := 3) (p := bcells b.ky) aggKy (by first | rfl | go_simp) (.tmp 119) rfl B6.out (op6C_key HWB.out) (by rw [op6C_len HWB.out]; omega) (by first | rfl | go_simp) ?_; clear TK12; have TK13 := Lib.hid True.intro)
    | (have hx := TK13; clear hx; refine wpList_cmpVg (.inl rfl) (by kernel_rfl) (by first | rfl | go_simp) (.tmp 118) (.tmp 120) rfl (by first | rfl | go_simp) (by first | rfl | go_simp) HCM.out ?_; clear TK13; have TK14 := Lib.hid True.intro))
  go_ret
  exact ⟨rfl, below_of_none G6.out⟩
theorem walk_SealBack (w : World) (hTB : TB w) (sy : Bool) (a : Op6) (ha : op6W w a) (b : Op6) (hb : op6W w b) :
    Calls Tryd.prog 4 #[.bool sy, .agg (op6C a).toArray, .agg (op6C b).toArray] w fun e w' => e = .returned (.bool true) ∧ Below w.heap.size w w' := by
  cases sy
  · exact walk_SealBackN w hTB a ha b hb
  · by_cases hky : a.ky = b.ky
    · by_cases hu : a.u = b.u
      · exact walk_SealBackSC w hTB a ha b hb hky hu
      · exact walk_SealBackSB w hTB a ha b hb hky hu
    · exact walk_SealBackSA w hTB a ha b hb hky
end Go.Proofs.YtaanhancjmigdaaDoor
