/- The walks of ticket's Seal and Open, by symbols, and of Terms where nothing was sealed. -/
import Derived.Test.YthgejidimnbplaaGreatDoorTsa
namespace Go.Proofs.YthgejidimnbplaaGreatDoor
open Go.RowKit Go.Maps

theorem run_buildT0 (w : World) : (Instr.build 25 #[]).run Tryz.prog w = .ok (.agg tZero.toArray) w := by kernel_rfl
/-- What ticket.Seal answers where nothing was sealed before. -/
def SealedT (w : World) (B s d : Nat) (key : List UInt8) (ok : Bool) (Y : List UInt8) (e : Ending) (w' : World) : Prop :=
  if ok = true then ∃ A c r', e = .returned (.tuple #[.slice A 9 c, .int .i64 0]) ∧ RB w' w'.heap.size A (boxN 0) c ∧ SS w' B s r' [(key, 2, Y)] d ∧ Wrs w w' s none
  else e = .returned (.tuple #[.slice none 0 0, .int .i64 1]) ∧ w.grownBy w' none
theorem Wrs.before {a b c : World} {s : Nat} {r : Option Nat} (h : a.grownBy b none) (k : Wrs b c s r) : Wrs a c s r :=
  ⟨k.os.trans h.os, k.tape.trans h.tape, k.output.trans h.output, Nat.le_trans h.size k.size, fun i hi h1 h2 => (k.block i (Nat.lt_of_lt_of_le hi h.size) h1 h2).trans (h.block i hi (by simp))⟩
set_option maxRecDepth 10000 in
set_option maxHeartbeats 1000000 in
theorem tseal_any (w : World) (hM : ML w) (B s d : Nat) (h : SS w B s none [] d) (key : List UInt8) (hkk : key.length = 16) (c v : ByteArray) (lc lv k : List UInt8) (st en fl : Int) (hc : c.data.toList = lc) (hv : v.data.toList = lv) (hk : k.length = 16) (hlc : lc.length ≤ 10000) (hlv : lv.length ≤ 10000) :
    Calls Tryz.prog 7 #[.pointer (some ⟨s, 0, none⟩), .agg (bcells key).toArray, .agg (tcells c v k st en fl).toArray] w fun e w' => SealedT w B s d key (tOk lc lv st en fl) (bytesF (tFields lc lv k st.toNat en.toNat fl.toNat)) e w' := by
  have HM := Lib.hid hM
  have HC := Lib.hid hc
  have HV := Lib.hid hv
  have HK := Lib.hid hk
  have HLC := Lib.hid hlc
  have HLV := Lib.hid hlv
  have K0 := Lib.hid ((CB.new w 23 (bcells key)).alloc (.cells (tcells c v k st en fl).toArray 25))
  have B0 := Lib.hid (CB.new1 w (.cells (bcells key).toArray 23) 25 (tcells c v k st en fl))
  have G0 := Lib.hid (grown_trans' (grown_alloc w (.cells (bcells key).toArray 23) none) (grown_alloc _ (.cells (tcells c v k st en fl).toArray 25) none))
  have S0 := Lib.hid (h.none G0.out)
  have HL := Lib.hid (tcells_length c v k st en fl hk)
  have LK := Lib.hid (show (bcells key).length = 16 by rw [bcells_length, hkk])
  have HKK := Lib.hid hkk
  cases ho : tOk lc lv st en fl with
  | false =>
    have HO := Lib.hid ho
    clear hM h hkk hc hv hk hlc hlv ho
    go_enter Tryz.func7, Tryz.ntmps7
    go_wp2_with (first
      | refine wpList_loadC (off := 0) (p := tcells c v k st en fl) aggTr rfl (.tmp 5) rfl B0.out (whole_take HL.out) (by have z := HL.out; omega) (by first | rfl | go_simp) ?_
      | (go_at_call 12; refine (twrite_any c v lc lv k st en fl _ (HM.out.below (below_of_none G0.out)) HC.out HV.out HK.out (by have := HLC.out; omega) (by have := HLV.out; omega)).mono ?_; intro e w2 h; obtain ⟨g, h⟩ := h; rw [if_neg (by rw [HO.out]; simp)] at h; subst h; have G2 := Lib.hid (grown_trans' G0.out g); clear g))
    go_ret2
    unfold SealedT
    rw [if_neg (by simp)]
    exact ⟨rfl, G2.out⟩
  | true =>
    have HO := Lib.hid ho
    obtain ⟨Y, hy⟩ : ∃ Y, bytesF (tFields lc lv k st.toNat en.toNat fl.toNat) = Y := ⟨_, rfl⟩
    have HY := Lib.hid hy
    have hb := tBytes_len ho hk
    rw [hy] at hb ⊢
    obtain ⟨n, hn⟩ : ∃ n, Y.length = n := ⟨_, rfl⟩
    have HN := Lib.hid hn
    rw [hn] at hb
    have HB := Lib.hid hb
    have HB16 := Lib.hid (show 16 < Y.length by rw [hn]; exact hb.1)
    clear hM h hkk hc hv hk hlc hlv ho hy hn hb
    go_enter Tryz.func7, Tryz.ntmps7
    go_wp2_with (first
      | refine wpList_loadC (off := 0) (p := tcells c v k st en fl) aggTr rfl (.tmp 5) rfl B0.out (whole_take HL.out) (by have z := HL.out; omega) (by first | rfl | go_simp) ?_
      | (go_at_call 12; refine (twrite_any c v lc lv k st en fl _ (HM.out.below (below_of_none G0.out)) HC.out HV.out HK.out (by have := HLC.out; omega) (by have := HLV.out; omega)).mono ?_; intro e w2 h; obtain ⟨g, h⟩ := h; rw [if_pos HO.out] at h; obtain ⟨vv, rfl, b⟩ := h; obtain ⟨A1, cap1, rfl, r⟩ := b; rw [HY.out] at r; rw [HY.out, HN.out]; have R2 := Lib.hid r; have G2 := Lib.hid (grown_trans' G0.out g); have K2 := Lib.hid (K0.out.kept g); have S2 := Lib.hid (S0.out.none g); clear g r)
      | refine wpList_loadC (off := 0) (p := bcells key) aggKy rfl (.tmp 4) rfl K2.out (whole_take LK.out) (by have z := LK.out; omega) (by first | rfl | go_simp) ?_
      | (go_at_call 14; refine (seal_any _ B s none [] d S2.out (key, 2, Y) A1 n cap1 HKK.out HN.out R2.out (S2.out.far R2.out HB16.out) HB.out.2 (by simp)).mono ?_; rintro e w3 ⟨vv, r', rfl, o3, s3, w3w, -⟩; obtain ⟨A3, c3, rfl, r3, -⟩ := o3.shape; rw [show (boxN ([] : List Te).length).length = 9 from boxN_len _]; have R3 := Lib.hid r3; have S3 := Lib.hid s3; have W3 := Lib.hid w3w; clear o3 r3 s3 w3w))
    go_ret2
    unfold SealedT
    rw [if_pos rfl]
    exact ⟨A3, c3, r', rfl, R3.out, S3.out, Wrs.before G2.out W3.out⟩

/-- What ticket.Open answers. -/
def OpenedT (w : World) (o : Option (List UInt8)) (e : Ending) (w' : World) : Prop :=
  w.grownBy w' none ∧ match o with
    | some l => if tReads l = true then e = .returned (.tuple #[.agg (tMade (tVals l)).toArray, .int .i64 0]) else e = .returned (.tuple #[.agg tZero.toArray, .int .i64 21])
    | none => e = .returned (.tuple #[.agg tZero.toArray, .int .i64 40])
set_option maxRecDepth 10000 in
set_option maxHeartbeats 1000000 in
theorem topen_any (w : World) (hM : ML w) (B s : Nat) (r : Option Nat) (T : List Te) (d : Nat) (h : SS w B s r T d) (key : List UInt8) (hkk : key.length = 16) (A : Option Addr) (box : List UInt8) (n cap : Nat) (hn : box.length = n) (hp : RB w w.heap.size A box cap) (hb : n ≤ 1000000) (hT : T.length < 1000000) (hpl : ∀ t ∈ T, t.2.2.length ≤ 100000) (o : Option (List UInt8)) (ho : openS T key 2 box = o) (hol : ∀ l, o = some l → l.length ≤ 100000) :
    Calls Tryz.prog 10 #[.pointer (some ⟨s, 0, none⟩), .agg (bcells key).toArray, .slice A n cap] w fun e w' => OpenedT w o e w' := by
  have HM := Lib.hid hM
  have HN := Lib.hid hn
  have K0 := Lib.hid ((CB.new w 23 (bcells key)).alloc (.cells tZero.toArray 25))
  have Z0 := Lib.hid (CB.new1 w (.cells (bcells key).toArray 23) 25 tZero)
  have G0 := Lib.hid (grown_trans' (grown_alloc w (.cells (bcells key).toArray 23) none) (grown_alloc _ (.cells tZero.toArray 25) none))
  have HC := Lib.hid (open_any _ B s r T d (h.none G0.out) key 2 A box n cap hkk hn (hp.keptS G0.out) hb hT hpl)
  have LK := Lib.hid (show (bcells key).length = 16 by rw [bcells_length, hkk])
  clear h hkk hp hb hT hpl
  cases o with
  | none =>
    rw [ho] at HC
    clear hM hn ho hol
    go_enter Tryz.func10, Tryz.ntmps10
    go_wp2_with (first
      | refine wpList_allocC zeroTr rfl rfl ?_
      | refine wpList_loadC (off := 0) (p := bcells key) aggKy rfl (.tmp 4) rfl K0.out (whole_take LK.out) (by have z := LK.out; omega) (by first | rfl | go_simp) ?_
      | (go_at_call 11; refine HC.out.mono ?_; rintro e w2 ⟨g, rfl⟩; have G2 := Lib.hid (grown_trans' G0.out g); have Z2 := Lib.hid (Z0.out.kept g); clear g)
      | refine wpList_buildVt rfl rfl (by first | rfl | (go_simp; rfl)) (run_buildT0 _) ?_
      | (refine wpList_storeC (off := 0) (p := tZero) aggTr.hi rfl (.tmp 6) (.tmp 19) rfl (.agg tZero.toArray) rfl tZero_one Z2.out tZero_length (by rw [tZero_length]; omega) (by first | rfl | go_simp) (by first | rfl | go_simp) ?_; intro w3 h3 g3; rw [over_all _ _ (Nat.le_refl _)] at h3; have C3 := Lib.hid h3; have G3 := Lib.hid (none_new G2.out g3 (by omega)); clear h3 g3))
    exact bodyPost_ret (results_C2 rfl _ aggTr C3.out tZero_length rfl rfl) rfl ⟨G3.out, rfl⟩
  | some l =>
    rw [ho] at HC
    have HLL := Lib.hid (hol l rfl)
    obtain ⟨m, hm⟩ : ∃ m, l.length = m := ⟨_, rfl⟩
    have HLM := Lib.hid hm
    have HC2 : Hid (Calls Tryz.prog 11 #[.pointer (some ⟨s, 0, none⟩), .agg (bcells key).toArray, .int .i64 2, .slice A n cap] ((w.alloc (.cells (bcells key).toArray 23)).alloc (.cells tZero.toArray 25)) fun e w' => ((w.alloc (.cells (bcells key).toArray 23)).alloc (.cells tZero.toArray 25)).grownBy w' none ∧ ∃ A' c', e = .returned (.tuple #[.slice A' m c', .int .i64 0]) ∧ RB w' w'.heap.size A' l c') := Lib.hid (HC.out.mono fun e w' ⟨g, A', c', he, ow⟩ => ⟨g, A', c', by rw [he, hm], ownB_rb ow⟩)
    clear HC
    obtain ⟨R, hR⟩ : ∃ R, R = if tReads l = true then (tMade (tVals l), (0 : Int)) else (tZero, 21) := ⟨_, rfl⟩
    have HRL := Lib.hid (show R.1.length = 21 by rw [hR]; split; exact tMade_length _; exact tZero_length)
    have HRO := Lib.hid (show ∀ u ∈ R.1, u.oneCell' = true by rw [hR]; split; exact tMade_one _; exact tZero_one)
    have HRD : Hid (∀ W, ML W → ∀ A' c', RB W W.heap.size A' l c' → Calls Tryz.prog 18 #[.slice A' m c'] W fun e w' => W.grownBy w' none ∧ e = .returned (.tuple #[.agg R.1.toArray, .int .i64 R.2])) := Lib.hid fun W hW A' c' hr => (tRead_any m c' A' l W hW hm (by have := HLL.out; omega) hr).mono fun e w' ⟨g, h⟩ => ⟨g, by rw [hR]; by_cases hq : tReads l = true <;> first | (simp only [hq, if_true] at h ⊢; exact h) | (simp only [hq, if_false, Bool.false_eq_true] at h ⊢; exact h)⟩
    have HEND : Hid (∀ e, e = Ending.returned (.tuple #[.agg R.1.toArray, .int .i64 R.2]) → match (some l : Option (List UInt8)) with
      | some l => if tReads l = true then e = .returned (.tuple #[.agg (tMade (tVals l)).toArray, .int .i64 0]) else e = .returned (.tuple #[.agg tZero.toArray, .int .i64 21])
      | none => e = .returned (.tuple #[.agg tZero.toArray, .int .i64 40])) := Lib.hid fun e he => by
        subst he
        simp only
        rw [hR]
        by_cases hq : tReads l = true
        · rw [if_pos hq, if_pos hq]
        · rw [if_neg hq, if_neg hq]
    obtain ⟨R1, R2⟩ := R
    simp only at HRL HRO HRD HEND
    clear hM hn ho hol hR hm
    go_enter Tryz.func10, Tryz.ntmps10
    go_wp2_with (first
      | refine wpList_allocC zeroTr rfl rfl ?_
      | refine wpList_loadC (off := 0) (p := bcells key) aggKy rfl (.tmp 4) rfl K0.out (whole_take LK.out) (by have z := LK.out; omega) (by first | rfl | go_simp) ?_
      | (go_at_call 11; refine HC2.out.mono ?_; rintro e w2 ⟨g, A1, c1, rfl, r1⟩; have G2 := Lib.hid (grown_trans' G0.out g); have Z2 := Lib.hid (Z0.out.kept g); have R1' := Lib.hid r1; clear g r1)
      | (go_at_call 18; refine (HRD.out _ (HM.out.below (below_of_none G2.out)) _ _ R1'.out).mono ?_; rintro e w3 ⟨g, rfl⟩; have G3 := Lib.hid (grown_trans' G2.out g); have Z3 := Lib.hid (Z2.out.kept g); clear g)
      | (refine wpList_storeC (off := 0) (p := R1) aggTr.hi rfl (.tmp 6) (.tmp 23) rfl (.agg R1.toArray) rfl HRO.out Z3.out HRL.out (by rw [tZero_length]; omega) (by first | rfl | go_simp) (by first | rfl | go_simp) ?_; intro w4 h4 g4; rw [over_all _ _ (Nat.le_of_eq (by rw [tZero_length, HRL.out]))] at h4; have C4 := Lib.hid h4; have G4 := Lib.hid (none_new G3.out g4 (by omega)); clear h4 g4))
    exact bodyPost_ret (results_C2 rfl _ aggTr C4.out HRL.out rfl rfl) rfl ⟨G4.out, HEND.out _ rfl⟩

set_option maxRecDepth 100000 in
theorem infoTs : ∃ i z, Tryz.prog.info? 50 = some i ∧ i.zero = some z ∧ i.size = 18 := ⟨_, _, rfl, rfl, rfl⟩
set_option maxRecDepth 10000 in
set_option maxHeartbeats 1000000 in
theorem terms_none (w : World) (B s d : Nat) (h : SS w B s none [] d) :
    Calls Tryz.prog 9 #[.pointer (some ⟨s, 0, none⟩)] w fun e w' => ∃ A c, e = .returned (.slice A 0 c) ∧ w.grownBy w' none := by
  obtain ⟨-, -, v, rows, hv0, hcb, hrow, -⟩ := h
  obtain rfl : v = .slice none 0 0 := by
    rcases hrow.1.2 with ⟨hv, _⟩ | ⟨g, cap, cur, rfl, _⟩
    · exact hv
    · cases hv0
  have q0 := hcb.at_ (seC_te d ([] : List Te).length (.slice none 0 0))
  obtain ⟨i, z, h1, h2, h3⟩ := infoTs
  clear hcb hrow hv0
  go_enter Tryz.func9, Tryz.ntmps9
  go_wp2_with (refine wpList_make_full _ rfl (.tmp 10) (.tmp 10) 35 rfl w.heap.size 50 i z 18 Tryz.underlying35 h1 h2 h3 .i64 .i64 0 0 0 (by first | rfl | go_simp) (by first | rfl | go_simp) rfl rfl (by omega) (by simp [maxLen]) (Nat.le_refl _) ?_; intro w2 o2 g2; have q2 := (g2.cell q0 (by simp)); have G2 := Lib.hid g2; clear g2 o2 q0)
  go_loopw [17] (fun v wr => v = .int .i64 0 ∧ wr = w2) (fun _ _ => 0)
  case atStart => exact ⟨rfl, rfl⟩
  case round =>
    obtain ⟨rfl, rfl⟩ := hrel
    go_wp2
    go_ret
    exact ⟨_, _, rfl, G2.out⟩
end Go.Proofs.YthgejidimnbplaaGreatDoor
