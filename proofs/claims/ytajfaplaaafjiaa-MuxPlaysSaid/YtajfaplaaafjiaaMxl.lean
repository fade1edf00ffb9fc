/- The walk of a Mux's Out. -/
import Derived.Test.YtajfaplaaafjiaaMxk
import Derived.Test.YtajfaplaaafjiaaFrh
namespace Go.Proofs.Ytajfaplaaafjiaa
open Go.RowKit

theorem outC_eq {c cur : Ch} {done : List (List UInt8)} (i : Nat) (h1 : (sends c).1 = done) (h2 : (sends c).2 = cur) :
    outC i c = (done.map (fun b => ((i : Int), b)) ++ (if mustE cur = true then [((4 : Int), ctlB 2 i 0)] else []) ++ (if 0 < cur.read then [((4 : Int), ctlB 1 i cur.read)] else []),
      if 0 < cur.read then chGrant (if mustE cur = true then chTold cur else cur) else (if mustE cur = true then chTold cur else cur)) := by
  unfold outC
  rw [h1, h2]
section
variable {w0 wr w1 w2 : World} {base m i k : Nat} {us0 vs0 us vs us1 vs1 : Nat → Value} {C D : Nat → Ch} {v : Value} {fs : List Fr} {u' v' : Value} {c : Ch}
theorem OI.sd (h : OI w0 wr base m us0 vs0 us vs (upd D k c) v fs) (hk : k < 4) : SD wr base m (8 * k) (muxC us vs (upd D k c)) (us k) (vs k) c := by
  have := h.mx.side hk
  rwa [upd_same] at this
theorem mxS_same (hu : u'.ownBlock = (us i).ownBlock) (hv : v'.ownBlock = (vs i).ownBlock) {z : Nat} (h : mxS m (upd us i u') (upd vs i v') z) : mxS m us vs z := by
  rcases h with rfl | ⟨j, hj, h⟩
  · exact .inl rfl
  · refine .inr ⟨j, hj, ?_⟩
    unfold upd at h
    by_cases e : j = i
    · subst e
      rw [if_pos rfl, if_pos rfl, hu, hv] at h
      exact h
    · rwa [if_neg e, if_neg e] at h
/-- A frame is laid: x and the body V, new since wr, where the Mux has no row. -/
theorem OI.lay (h : OI w0 w2 base m us0 vs0 us1 vs1 C v fs) (x : Int) {A : Option Addr} {n cap : Nat} {l : List UInt8} (hz : ∀ z, mxS m us1 vs1 z → z < wr.heap.size) (hsz : w0.heap.size ≤ wr.heap.size) (ob : OwnB w2 wr.heap.size 5 (.slice A n cap) l) :
    OI w0 (w2.alloc (.cells #[.int .i64 x, .slice A n cap] 24)) base m us0 vs0 us1 vs1 C v fs ∧ OwnB (w2.alloc (.cells #[.int .i64 x, .slice A n cap] 24)) w0.heap.size 5 (.slice A n cap) l ∧
    (∀ g, (Value.slice A n cap).ownBlock = some g → ¬ mxS m us1 vs1 g) ∧ (w2.alloc (.cells #[.int .i64 x, .slice A n cap] 24)).cell? ⟨w2.heap.size, 0, none⟩ = some (.int .i64 x) ∧
    (w2.alloc (.cells #[.int .i64 x, .slice A n cap] 24)).cell? ((⟨w2.heap.size, 0, none⟩ : Addr).add 1) = some (.slice A n cap) ∧ w0.heap.size ≤ (w2.alloc (.cells #[.int .i64 x, .slice A n cap] 24)).heap.size := by
  refine ⟨h.made (grown_alloc _ _ _), (ob.alloc _).base_ hsz, fun g hg e => ?_, (CB.new w2 24 [.int .i64 x, .slice A n cap]).at_ (i := 0) rfl, ?_, ?_⟩
  · have := (ob.lt g hg).1
    have := hz g e
    omega
  · rw [Addr.add_lit]
    exact (CB.new w2 24 [.int .i64 x, .slice A n cap]).at_ (i := 1) rfl
  · have := h.mg.1.size
    rw [World.size_alloc]
    omega
theorem OI.dr (h : OI w0 wr base m us0 vs0 us vs C v fs) (q : Nat) : OI w0 (wr.drewN q) base m us0 vs0 us vs C v fs := h.made ⟨rfl, rfl, rfl, Nat.le_refl _, fun _ _ _ => rfl⟩
theorem OI.put (h : OI w0 wr base m us0 vs0 us vs (upd D k c) v fs) (hk : k < 4) {c' : Ch} (hs : SD w1 base m (8 * k) (muxC us vs (upd D k c)) (us k) (vs k) c') (hg : wr.grownBy w1 (some m)) : OI w0 w1 base m us0 vs0 us vs (upd D k c') v fs := by
  have := h.step hk hs (sdM hg) (.inl rfl) (.inl rfl) rfl
  rwa [upd_self, upd_self, upd_upd] at this
end

theorem at8 {f m o o' : Nat} {w : World} {Q : Ending → World → Prop} (e : o' = o) (h : Calls Try.prog f #[.pointer (some ⟨m, o, none⟩)] w Q) : Calls Try.prog f #[.pointer (some ⟨m, o', none⟩)] w Q := by rw [e]; exact h

def InRel (w : World) (base m : Nat) (us vs : Nat → Value) (D : Nat → Ch) (F : List Fr) (k : Nat) (s3 : Value) (wq : World) : Prop :=
  ∃ (f : Nat) (us2 vs2 : Nat → Value) (cur : Ch) (done : List (List UInt8)) (A : Option Addr) (n c : Nat), s3 = .slice A n c ∧ OI w wq base m us vs us2 vs2 (upd D k cur) (.slice A n c) (F ++ done.map (fun b => ((k : Int), b))) ∧
    (F ++ done.map (fun b => ((k : Int), b))).length = n ∧ cur.credit ≤ f ∧ Lim cur ∧ done ++ (sendsF f cur).1 = (sends (D k)).1 ∧ (sendsF f cur).2 = (sends (D k)).2 ∧ n + f ≤ 1026 * k + 1024
def OutRel (w : World) (base m : Nat) (us vs : Nat → Value) (C : Nat → Ch) (s3 s6 : Value) (wr : World) : Prop :=
  ∃ (k : Nat) (us1 vs1 : Nat → Value) (A : Option Addr) (n c : Nat), s3 = .slice A n c ∧ s6 = .int .i64 k ∧ k ≤ 4 ∧ (outM k C).1.length = n ∧ OI w wr base m us vs us1 vs1 (outM k C).2 (.slice A n c) (outM k C).1

set_option maxRecDepth 100000 in
set_option maxHeartbeats 8000000 in
theorem muout_any (w : World) (base m : Nat) (us vs : Nat → Value) (C : Nat → Ch) (h : MX w base m us vs C) (hl : ∀ i, i < 4 → Lim (C i)) :
    Calls Try.prog 31 #[.pointer (some ⟨m, 0, none⟩)] w fun e w' => ∃ A n c us' vs', e = .returned (.slice A n c) ∧ (outM 4 C).1.length = n ∧ OI w w' base m us vs us' vs' (outM 4 C).2 (.slice A n c) (outM 4 C).1 := by
  have HL := Lib.hid hl
  have H := Lib.hid h
  clear h hl
  go_enter Try.func31, Try.ntmps31
  go_wp2
  go_loopw [3, 6] (fun s3 s6 wr => OutRel w base m us vs C s3 s6 wr) (fun _ s6 _ => 4 - (intOf s6).toNat)
  case atStart => exact ⟨0, us, vs, none, 0, 0, rfl, rfl, by omega, rfl, H.out, OwnF.nil_ _ _ _, MG.refl _ _ _ _⟩
  case round =>
    obtain ⟨k, us1, vs1, A, n, c, rfl, rfl, hk, hn, ho⟩ := hrel
    obtain ⟨wo, hwo⟩ : ∃ wo, wo = wr := ⟨_, rfl⟩
    subst hwo
    by_cases hlt : k < 4
    · have hki : (k : Int) < 4 := by omega
      have hk0 : ¬ (k : Int) < 0 := by omega
      have LB := Lib.hid (outM_len HL.out k hk)
      have LK := Lib.hid (Lim.outM_ HL.out k hk k hlt)
      have EQ := Lib.hid (show outM (k + 1) C = ((outM k C).1 ++ (outC k ((outM k C).2 k)).1, upd (outM k C).2 k (outC k ((outM k C).2 k)).2) from rfl)
      generalize (outM k C).2 = D at *
      generalize (outM k C).1 = F at *
      have HO := Lib.hid ho
      have HN := Lib.hid hn
      have SZ := Lib.hid ho.mg.1.size
      clear ho hn
      go_wp2
      go_loopw [3] (fun s3 wq => InRel w base m us vs D F k s3 wq) (fun s3 _ => 5000 - lenV s3)
      case atStart =>
        refine ⟨(D k).credit, us1, vs1, D k, [], A, n, c, rfl, by rw [upd_self]; simpa using HO.out, by simpa using HN.out, Nat.le_refl _, LK.out, by rw [List.nil_append]; rfl, rfl, ?_⟩
        have := LB.out; have := HN.out; have := LK.out.cr; omega
      case round =>
        obtain ⟨f, us2, vs2, cur, done, A1, n1, c1, rfl, hi, hn1, hcf, hlim, hd1, hd2, hb⟩ := hrel
        obtain ⟨wq, hwq⟩ : ∃ wq, wq = wr := ⟨_, rfl⟩
        subst hwq
        have MAY := Lib.hid (at8 (Nat.mul_comm k 8) (mmay_any wq base m (8 * k) _ _ _ cur (hi.sd hlt)))
        have SQ := Lib.hid (show w.heap.size ≤ wq.heap.size from hi.mg.1.size)
        have HI := Lib.hid hi
        have HN1 := Lib.hid hn1
        have HB := Lib.hid hb
        have LI := Lib.hid hlim
        have LTS := Lib.hid (fun z (hz : mxS m us2 vs2 z) => (hi.mx.lt z hz).2)
        clear hi hn1 hb hlim
        by_cases hm : mayS cur = true
        · obtain ⟨f', rfl⟩ : ∃ f', f = f' + 1 := ⟨f - 1, by have := (mayS_iff cur).1 hm; omega⟩
          rw [sendsF_yes hm f'] at hd1 hd2
          have hcr := ((mayS_iff cur).1 hm)
          rw [hm] at MAY
          have MS := Lib.hid (fun q => at8 (Nat.mul_comm k 8) (msend_any (wq.drewN q) base m (8 * k) _ _ _ cur ((HI.out.dr q).sd hlt) LI.out.ws LI.out.cr (sendK cur) rfl))
          have KP := Lib.hid (show 0 < sendK cur by unfold sendK; omega)
          have D1 := Lib.hid hd1
          have D2 := Lib.hid hd2
          have CF := Lib.hid hcf
          clear hd1 hd2 hcf hm hcr
          go_wp2_with (first
            | (go_at_call 49; refine MAY.out.mono ?_; rintro e wx ⟨rfl, q, rfl⟩)
            | (go_at_call 50
               refine (MS.out q).mono ?_
               rintro e w2 ⟨A2, c2, rfl, o2, u2, k2, e2, m2⟩
               have h2 := (HI.out.dr q).step hlt k2 (sdU_u m2) (.inl e2) (.inl rfl) rfl
               rw [upd_upd] at h2
               have L2 := Lib.hid (h2.lay (wr := wq) (k : Int) (fun z hz => LTS.out z (mxS_same e2 rfl hz)) SQ.out o2)
               clear o2 k2 m2 e2 h2)
            | (at_builtin
               refine wpList_appF rfl (.tmp 16) (.tmp 21) rfl (f := ((k : Int), cur.waits.take (sendK cur))) L2.out.1.of L2.out.2.1 L2.out.2.2.1 L2.out.2.2.2.1 L2.out.2.2.2.2.1 (by first | rfl | go_simp) (by first | rfl | go_simp) (by have := (show (F ++ done.map (fun b => ((k : Int), b))).length ≤ 100000 by rw [HN1.out]; have := HB.out; omega); omega) L2.out.2.2.2.2.2 ?_
               intro v4 w4 of4 gr4 _
               obtain ⟨A4, c4, hv4, -, -⟩ := of4.shape
               have H4 := Lib.hid (L2.out.1.app gr4 of4)
               generalize hl4 : List.length (_ ++ [_]) = n4 at hv4
               subst hv4
               have LN4 := Lib.hid hl4
               skip
               clear of4 gr4 hl4))
          go_roundw
          case rel =>
            have h4 := H4.out
            rw [List.append_assoc] at h4
            refine ⟨f', _, _, chSend cur (sendK cur), done ++ [cur.waits.take (sendK cur)], A4, n4, c4, rfl, by rw [List.map_append]; exact h4, by rw [List.map_append, ← List.append_assoc]; exact LN4.out, ?_, LI.out.send _, by rw [List.append_assoc]; exact D1.out, D2.out, ?_⟩
            · have := CF.out; have := KP.out; simp only [chSend]; omega
            · have := LN4.out; rw [List.length_append] at this; simp only [List.length_cons, List.length_nil] at this; have := HN1.out; have := HB.out; omega
          case measure =>
            have := LN4.out; rw [List.length_append] at this; simp only [List.length_cons, List.length_nil] at this; have := HN1.out; have := HB.out
            simp [lenV]; omega
        · have e1 : (sends (D k)).1 = done := by rw [← hd1, sendsF_no hm, List.append_nil]
          have e2 : (sends (D k)).2 = cur := by rw [← hd2, sendsF_no hm]
          have OE := Lib.hid (outC_eq k e1 e2)
          have RD := Lib.hid (show cur.read ≤ 1024 ∧ cur.room ≤ 1024 from ⟨by have := LI.out.rm; omega, by have := LI.out.rm; omega⟩)
          have BN := Lib.hid (show n1 ≤ 5000 by have := HB.out; omega)
          have hmf : mayS cur = false := by simpa using hm
          rw [hmf] at MAY
          clear hd1 hd2 hcf hm e1 e2 hmf
          have MU := Lib.hid (fun q => at8 (Nat.mul_comm k 8) (mmust_any (wq.drewN q) base m (8 * k) _ _ _ cur ((HI.out.dr q).sd hlt)))
          have CT2 := Lib.hid (show ∀ W, Calls Try.prog 52 #[.int .u8 2, .int .i64 k, .int .i64 0] W _ from fun W => control_any W 2 k 0 (by omega) (by omega) (by omega))
          have CT1 := Lib.hid (show ∀ W, Calls Try.prog 52 #[.int .u8 1, .int .i64 k, .int .i64 cur.read] W _ from fun W => control_any W 1 k cur.read (by omega) (by omega) (by have := RD.out; omega))
          have C6 := Lib.hid (show wq.cell? ⟨m, k * 8 + 6, none⟩ = some (.int .i64 (cur.read : Int)) by rw [Nat.mul_comm k 8]; exact (HI.out.sd hlt).at_ (k := 6) rfl)
          by_cases hmu : mustE cur = true
          · rw [if_pos hmu, if_pos hmu] at OE
            rw [hmu] at MU
            clear hmu
            by_cases hrd : 0 < cur.read
            · rw [if_pos hrd, if_pos hrd] at OE
              have hri : (0 : Int) < (cur.read : Int) := by omega
              clear hrd
              go_wp2_with (first
                | (go_at_call 49
                   refine MAY.out.mono ?_
                   rintro e wx ⟨rfl, qq, rfl⟩)
                | (go_at_call 51
                   refine (MU.out qq).mono ?_
                   rintro e wx ⟨rfl, q, rfl⟩
                   have HQ := Lib.hid (HI.out.dr (qq + q))
                   have c6 : wq.cell? ⟨m, k * 8 + 6, none⟩ = some (.int .i64 (cur.read : Int)) := C6.out)
                | (go_at_call 52
                   with_reducible refine (CT2.out _).mono ?_
                   rintro e w2 ⟨A2, c2, rfl, o2, g2⟩
                   have L2 := Lib.hid ((HI.out.dr (qq + q)).made g2 |>.lay (wr := wq.drewN (qq + q)) 4 (fun z hz => LTS.out z hz) SQ.out o2)
                   clear o2 g2)
                | (at_builtin
                   refine wpList_appF rfl (.tmp 25) (.tmp 28) rfl (f := ((4 : Int), ctlB 2 k 0)) L2.out.1.of L2.out.2.1 L2.out.2.2.1 L2.out.2.2.2.1 L2.out.2.2.2.2.1 (by first | rfl | go_simp) (by first | rfl | go_simp) (by have := (show (F ++ done.map (fun b => ((k : Int), b))).length ≤ 100000 by rw [HN1.out]; have := BN.out; omega); omega) L2.out.2.2.2.2.2 ?_
                   intro v4 w4 of4 gr4 _
                   obtain ⟨A4, c4, hv4, -, -⟩ := of4.shape
                   have H4 := Lib.hid (L2.out.1.app gr4 of4)
                   generalize hl4 : List.length (_ ++ [_]) = n4 at hv4
                   subst hv4
                   have LN4 := Lib.hid hl4
                   have P4 := (H4.out.sd hlt).put 3 (.bool true) (chTold cur) (by omega) rfl rfl rfl
                   have H5 := Lib.hid (show OI w (w4.setCell ⟨m, k * 8 + 3, none⟩ (.bool true)) base m us vs us2 vs2 (upd D k (chTold cur)) _ _ from by rw [Nat.mul_comm k 8]; exact H4.out.put hlt P4.1 P4.2)
                   have e3 : w4.cell? ⟨m, k * 8 + 3, none⟩ = some (.bool cur.told) := by rw [Nat.mul_comm k 8]; exact (H4.out.sd hlt).at_ (k := 3) rfl
                   have f3 : w4.frozen? ⟨m, k * 8 + 3, none⟩ = false := (H4.out.sd hlt).cb.free _
                   have e6 : w4.cell? ⟨m, k * 8 + 6, none⟩ = some (.int .i64 (cur.read : Int)) := by rw [Nat.mul_comm k 8]; exact (H4.out.sd hlt).at_ (k := 6) rfl
                   have e7 : (w4.setCell ⟨m, k * 8 + 3, none⟩ (.bool true)).cell? ⟨m, k * 8 + 6, none⟩ = some (.int .i64 (cur.read : Int)) := by rw [show k * 8 + 6 = 8 * k + 6 by omega]; exact (H5.out.sd hlt).at_ (k := 6) rfl
                   clear P4
                   clear of4 gr4 hl4)
                | (go_at_call 53
                   refine (at8 (Nat.mul_comm k 8) (mgrant_any _ base m (8 * k) _ _ _ (chTold cur) (H5.out.sd hlt) (Nat.le_trans RD.out.2 (by decide)) (Nat.le_trans RD.out.1 (by decide)))).mono ?_
                   rintro e w5 ⟨he, k5, g5⟩
                   have he : e = .returned (.int .i64 (cur.read : Int)) := he
                   subst he
                   have H6 := Lib.hid (H5.out.put hlt k5 g5)
                   clear k5 g5)
                | (go_at_call 52
                   with_reducible refine (CT1.out _).mono ?_
                   rintro e w6 ⟨A6, c6, rfl, o6, g6⟩
                   have L6 := Lib.hid ((H6.out.made g6).lay (wr := w5) 4 (fun z hz => (H6.out.mx.lt z hz).2) H6.out.mg.1.size o6)
                   clear o6 g6)
                | (at_builtin
                   refine wpList_appF rfl (.tmp 38) (.tmp 43) rfl (f := ((4 : Int), ctlB 1 k cur.read)) L6.out.1.of L6.out.2.1 L6.out.2.2.1 L6.out.2.2.2.1 L6.out.2.2.2.2.1 (by first | rfl | go_simp) (by first | rfl | go_simp) (by have := (show (F ++ done.map (fun b => ((k : Int), b)) ++ [((4 : Int), ctlB 2 k 0)]).length ≤ 100000 by rw [List.length_append, HN1.out]; have := BN.out; simp; omega); omega) L6.out.2.2.2.2.2 ?_
                   intro v8 w8 of8 gr8 _
                   obtain ⟨A8, c8, hv8, -, -⟩ := of8.shape
                   have H8 := Lib.hid (L6.out.1.app gr8 of8)
                   generalize hl8 : List.length (_ ++ [_]) = n8 at hv8
                   subst hv8
                   have LN8 := Lib.hid hl8
                   skip
                   clear of8 gr8 hl8))
              go_roundw
              case rel => exact ⟨k + 1, _, _, A8, n8, c8, rfl, by go_num, by omega, by rw [EQ.out, OE.out]; have := LN8.out; simpa [List.append_assoc] using this, by rw [EQ.out, OE.out]; have := H8.out; simpa [List.append_assoc] using this⟩
              case measure => simp [intOf]; omega
            · rw [if_neg hrd, if_neg hrd] at OE
              have hri : ¬ (0 : Int) < (cur.read : Int) := by omega
              clear hrd
              go_wp2_with (first
                | (go_at_call 49
                   refine MAY.out.mono ?_
                   rintro e wx ⟨rfl, qq, rfl⟩)
                | (go_at_call 51
                   refine (MU.out qq).mono ?_
                   rintro e wx ⟨rfl, q, rfl⟩
                   have HQ := Lib.hid (HI.out.dr (qq + q))
                   have c6 : wq.cell? ⟨m, k * 8 + 6, none⟩ = some (.int .i64 (cur.read : Int)) := C6.out)
                | (go_at_call 52
                   with_reducible refine (CT2.out _).mono ?_
                   rintro e w2 ⟨A2, c2, rfl, o2, g2⟩
                   have L2 := Lib.hid ((HI.out.dr (qq + q)).made g2 |>.lay (wr := wq.drewN (qq + q)) 4 (fun z hz => LTS.out z hz) SQ.out o2)
                   clear o2 g2)
                | (at_builtin
                   refine wpList_appF rfl (.tmp 25) (.tmp 28) rfl (f := ((4 : Int), ctlB 2 k 0)) L2.out.1.of L2.out.2.1 L2.out.2.2.1 L2.out.2.2.2.1 L2.out.2.2.2.2.1 (by first | rfl | go_simp) (by first | rfl | go_simp) (by have := (show (F ++ done.map (fun b => ((k : Int), b))).length ≤ 100000 by rw [HN1.out]; have := BN.out; omega); omega) L2.out.2.2.2.2.2 ?_
                   intro v4 w4 of4 gr4 _
                   obtain ⟨A4, c4, hv4, -, -⟩ := of4.shape
                   have H4 := Lib.hid (L2.out.1.app gr4 of4)
                   generalize hl4 : List.length (_ ++ [_]) = n4 at hv4
                   subst hv4
                   have LN4 := Lib.hid hl4
                   have P4 := (H4.out.sd hlt).put 3 (.bool true) (chTold cur) (by omega) rfl rfl rfl
                   have H5 := Lib.hid (show OI w (w4.setCell ⟨m, k * 8 + 3, none⟩ (.bool true)) base m us vs us2 vs2 (upd D k (chTold cur)) _ _ from by rw [Nat.mul_comm k 8]; exact H4.out.put hlt P4.1 P4.2)
                   have e3 : w4.cell? ⟨m, k * 8 + 3, none⟩ = some (.bool cur.told) := by rw [Nat.mul_comm k 8]; exact (H4.out.sd hlt).at_ (k := 3) rfl
                   have f3 : w4.frozen? ⟨m, k * 8 + 3, none⟩ = false := (H4.out.sd hlt).cb.free _
                   have e6 : w4.cell? ⟨m, k * 8 + 6, none⟩ = some (.int .i64 (cur.read : Int)) := by rw [Nat.mul_comm k 8]; exact (H4.out.sd hlt).at_ (k := 6) rfl
                   have e7 : (w4.setCell ⟨m, k * 8 + 3, none⟩ (.bool true)).cell? ⟨m, k * 8 + 6, none⟩ = some (.int .i64 (cur.read : Int)) := by rw [show k * 8 + 6 = 8 * k + 6 by omega]; exact (H5.out.sd hlt).at_ (k := 6) rfl
                   clear P4
                   clear of4 gr4 hl4))
              go_roundw
              case rel => exact ⟨k + 1, _, _, A4, n4, c4, rfl, by go_num, by omega, by rw [EQ.out, OE.out]; have := LN4.out; simpa [List.append_assoc] using this, by rw [EQ.out, OE.out]; have := H5.out; simpa [List.append_assoc] using this⟩
              case measure => simp [intOf]; omega
          · have hmf : mustE cur = false := by simpa using hmu
            rw [if_neg hmu, if_neg hmu] at OE
            rw [hmf] at MU
            clear hmu hmf
            by_cases hrd : 0 < cur.read
            · rw [if_pos hrd, if_pos hrd] at OE
              have hri : (0 : Int) < (cur.read : Int) := by omega
              clear hrd
              go_wp2_with (first
                | (go_at_call 49
                   refine MAY.out.mono ?_
                   rintro e wx ⟨rfl, qq, rfl⟩)
                | (go_at_call 51
                   refine (MU.out qq).mono ?_
                   rintro e wx ⟨rfl, q, rfl⟩
                   have HQ := Lib.hid (HI.out.dr (qq + q))
                   have c6 : wq.cell? ⟨m, k * 8 + 6, none⟩ = some (.int .i64 (cur.read : Int)) := C6.out)
                | (go_at_call 53
                   refine (at8 (Nat.mul_comm k 8) (mgrant_any _ base m (8 * k) _ _ _ cur ((HI.out.dr (qq + q)).sd hlt) (Nat.le_trans RD.out.2 (by decide)) (Nat.le_trans RD.out.1 (by decide)))).mono ?_
                   rintro e w5 ⟨he, k5, g5⟩
                   have he : e = .returned (.int .i64 (cur.read : Int)) := he
                   subst he
                   have H6 := Lib.hid ((HI.out.dr (qq + q)).put hlt k5 g5)
                   clear k5 g5)
                | (go_at_call 52
                   with_reducible refine (CT1.out _).mono ?_
                   rintro e w6 ⟨A6, c6, rfl, o6, g6⟩
                   have L6 := Lib.hid ((H6.out.made g6).lay (wr := w5) 4 (fun z hz => (H6.out.mx.lt z hz).2) H6.out.mg.1.size o6)
                   clear o6 g6)
                | (at_builtin
                   refine wpList_appF rfl (.tmp 38) (.tmp 43) rfl (f := ((4 : Int), ctlB 1 k cur.read)) L6.out.1.of L6.out.2.1 L6.out.2.2.1 L6.out.2.2.2.1 L6.out.2.2.2.2.1 (by first | rfl | go_simp) (by first | rfl | go_simp) (by have := (show (F ++ done.map (fun b => ((k : Int), b))).length ≤ 100000 by rw [HN1.out]; have := BN.out; omega); omega) L6.out.2.2.2.2.2 ?_
                   intro v8 w8 of8 gr8 _
                   obtain ⟨A8, c8, hv8, -, -⟩ := of8.shape
                   have H8 := Lib.hid (L6.out.1.app gr8 of8)
                   generalize hl8 : List.length (_ ++ [_]) = n8 at hv8
                   subst hv8
                   have LN8 := Lib.hid hl8
                   skip
                   clear of8 gr8 hl8))
              go_roundw
              case rel => exact ⟨k + 1, _, _, A8, n8, c8, rfl, by go_num, by omega, by rw [EQ.out, OE.out]; have := LN8.out; simpa [List.append_assoc] using this, by rw [EQ.out, OE.out]; have := H8.out; simpa [List.append_assoc] using this⟩
              case measure => simp [intOf]; omega
            · rw [if_neg hrd, if_neg hrd] at OE
              have hri : ¬ (0 : Int) < (cur.read : Int) := by omega
              clear hrd
              go_wp2_with (first
                | (go_at_call 49
                   refine MAY.out.mono ?_
                   rintro e wx ⟨rfl, qq, rfl⟩)
                | (go_at_call 51
                   refine (MU.out qq).mono ?_
                   rintro e wx ⟨rfl, q, rfl⟩
                   have HQ := Lib.hid (HI.out.dr (qq + q))
                   have c6 : wq.cell? ⟨m, k * 8 + 6, none⟩ = some (.int .i64 (cur.read : Int)) := C6.out))
              go_roundw
              case rel => exact ⟨k + 1, _, _, A1, n1, c1, rfl, by go_num, by omega, by rw [EQ.out, OE.out]; have := HN1.out; simpa [List.append_assoc] using this, by rw [EQ.out, OE.out]; have := (HI.out.dr (qq + q)); simpa [List.append_assoc] using this⟩
              case measure => simp [intOf]; omega
    · have hk4 : k = 4 := by omega
      subst hk4
      go_wp2
      go_ret
      exact ⟨_, _, _, us1, vs1, rfl, hn, ho⟩
end Go.Proofs.Ytajfaplaaafjiaa
