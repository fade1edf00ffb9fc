/- runCommand. -/
import Derived.Test.YtlkchajkhplapaaGreatDoorSke
namespace Go.Proofs.YtlkchajkhplapaaGreatDoor
open Go.RowKit Go.Maps Go.WideMaps

theorem TS.far {w w' : World} {tb mb : Nat} {M : Tr} (h : TS w tb mb M) {g : Nat} (hg : w.grownBy w' (some g)) {cs : Array Value} {t : TypeId} {sh : Nat × Nat} (hb : w.heap[g]? = some (.cells cs t sh)) (h1 : t ≠ 96) (h2 : t ≠ 63) (h3 : t ≠ 5) : TS w' tb mb M := by
  have hk : Kp [t] w w' := Kp.of ⟨_, hg, fun b e cs' t' sh' hb' => by
    injection e with e
    subst e
    have := hb.symm.trans hb'
    injection this with this
    injection this with _ h2
    rw [← h2]; simp⟩
  refine ⟨⟨hk.blk _ _ _ _ h.tr.top (by simpa using h1.symm), h.tr.map.kept hg (fun e => ?_), fun p n hp => ⟨hk.blk _ _ _ _ (h.tr.nodes p n hp).1 (by simpa using h2.symm), (h.tr.nodes p n hp).2⟩⟩, h.sep, fun p n hp => ?_, h.rsep⟩
  · injection e with e
    subst e
    obtain ⟨hf, es, clock, hmb, F⟩ := h.tr.map
    have := hb.symm.trans hmb
    injection this with this
    cases this
  · obtain ⟨l, hl, hle⟩ := h.row p n hp
    exact ⟨l, hk.own hl (by simpa using h3.symm), hle⟩
theorem TG.far {w0 w w' : World} {tb mb : Nat} {M : Tr} (h : TG w0 w tb mb M) {g : Nat} (hz : w0.heap.size ≤ g) (hg : w.grownBy w' (some g)) {cs : Array Value} {t : TypeId} {sh : Nat × Nat} (hb : w.heap[g]? = some (.cells cs t sh)) (h1 : t ≠ 96) (h2 : t ≠ 63) (h3 : t ≠ 5) : TG w0 w' tb mb M :=
  ⟨h.ts.far hg hb h1 h2 h3, none_of h.gr hg hz, h.b1, h.b2, h.b3⟩
theorem kp_one {w w' : World} {g : Nat} {t : TypeId} {cs : List Value} (h : CB w g t cs) (hg : w.grownBy w' (some g)) : Kp [t] w w' := Kp.of ⟨_, hg, fun b e cs' t' sh' hb' => by
    injection e with e
    subst e
    have := h.symm.trans hb'
    injection this with this
    injection this with _ h2
    rw [← h2]; simp⟩
theorem SG.far {w0 w w' : World} {sb tb mb N : Nat} {M : Tr} (h : SG w0 w sb tb mb M N) {g : Nat} {cs : List Value} (hc : CB w g 57 cs) (hz : w0.heap.size ≤ g) (hg : w.grownBy w' (some g)) : SG w0 w' sb tb mb M N := by
  have hk := kp_one hc hg
  obtain ⟨v, Cs, h1, h2, h3⟩ := h.sh
  exact ⟨h.tg.far hz hg hc (by decide) (by decide) (by decide), h.bs, v, Cs, hk.blk _ _ _ _ h1 (by decide), ⟨hk.own h2.1 (by decide), h2.2⟩, h3⟩
/-- What runCommand answers. -/
def CoR (w0 w : World) (sb tb mb : Nat) (M : Tr) (N : Nat) (who : ByteArray) (c : List UInt8) (xs : List (List UInt8)) (e : Ending) (w' : World) : Prop :=
  ∃ ov ev out err code M', e = .returned (.agg #[ov, ev, .int .i64 (code : Nat)]) ∧ OB w' ov out ∧ OB w' ev err ∧ SG w0 w' sb tb mb M' N ∧ SndM M' ∧ Kp [63] w w' ∧
    (code ≠ 0 ∨ ¬ loudC c → M' = M ∧ w.grownBy w' none) ∧ CmdR (fun v l => OwnB w 0 5 v l) (fun v l => OwnB w' 0 5 v l) M who c xs out err code M'
/-- The answer lies in the call's own cell. -/
theorem co_done {w0 w w1 w' : World} {sb tb mb N : Nat} {M M' : Tr} {who : ByteArray} {c : List UInt8} {xs : List (List UInt8)} {ov ev : Value} {out err : List UInt8} {code : Nat} {g : Nat} {cs : List Value}
    (h : SG w0 w1 sb tb mb M' N) (h0 : w0.heap.size ≤ w.heap.size) (hS : SndM M') (ho : OB w1 ov out) (he : OB w1 ev err) (hk : Kp [63] w w1) (hq : code ≠ 0 ∨ ¬ loudC c → M' = M ∧ w.grownBy w1 none) (hc : CB w1 g 57 cs) (hw : w.heap.size ≤ g) (hg : w1.grownBy w' (some g))
    (hcmd : CmdR (fun v l => OwnB w 0 5 v l) (fun v l => OwnB w1 0 5 v l) M who c xs out err code M') : CoR w0 w sb tb mb M N who c xs (.returned (.agg #[ov, ev, .int .i64 (code : Nat)])) w' := by
  have hk1 := kp_one hc hg
  refine ⟨ov, ev, out, err, code, M', rfl, hk1.ob ho (by decide), hk1.ob he (by decide), h.far hc (Nat.le_trans h0 hw) hg, hS, ⟨Nat.le_trans hk.size hg.size, fun b cs' t sh hb ht => ?_⟩, fun hh => ⟨(hq hh).1, none_new (hq hh).2 hg hw⟩, hcmd.mono (fun _ _ e => e) (fun v l e => hk1.own e (by decide))⟩
  have h2 := hk.blk _ _ _ _ hb ht
  have hlt := (Array.getElem?_eq_some_iff.1 hb).1
  exact (hg.block b (Array.getElem?_eq_some_iff.1 h2).1 (fun e => by injection e with e; omega)).trans h2
theorem OB.open_ {w : World} {v : Value} {l : List UInt8} (h : OB w v l) : ∃ A n cap, v = .slice A n cap ∧ l.length = n := by
  obtain ⟨A, c, h1, -, -⟩ := h
  exact ⟨A, _, c, h1, rfl⟩
section
variable {w0 w : World} {sb tb mb N : Nat} {M : Tr}
set_option maxRecDepth 20000 in
set_option maxHeartbeats 8000000 in
theorem co_unknown (h : SG w0 w sb tb mb M N) (hS : SndM M) (htab : TI w0) (who : ByteArray) (A : Option Addr) (c : List UInt8) (hcl : c.length ≤ 1000000) (xs : List (List UInt8)) (hu1 : (usageF c xs).1 = false) (n cap : Nat) (ha : Args w A xs n cap) :
    Calls Tryz.prog 95 #[.pointer (some ⟨sb, 0, none⟩), .string who, .string ⟨c.toArray⟩, .slice A n cap] w (CoR w0 w sb tb mb M N who c xs) := by
  obtain ⟨b2, hb2⟩ : ∃ b, (usageF c xs).2 = b := ⟨_, rfl⟩
  have hu2 := hb2
  have HG := Lib.hid h
  have HA := Lib.hid ha
  have HS := Lib.hid hS
  have HTI := Lib.hid (htab.on h.tg.gr)
  have H0 := Lib.hid h.tg.gr.size
  have hnl : n ≤ 9223372036854775807 := by have h1 := ha.sr.1; have h2 := ha.sr.2.1; rw [List.length_map, ha.n] at h1; unfold maxLen at h2; omega
  obtain ⟨wa, hwa⟩ : ∃ x, x = w.alloc (.cells #[.slice none 0 0, .slice none 0 0, .int .i64 0] 57) := ⟨_, rfl⟩
  have GA := Lib.hid (show w.grownBy wa none by rw [hwa]; exact grown_alloc _ _ _)
  have CA := Lib.hid (show CB wa w.heap.size 57 [.slice none 0 0, .slice none 0 0, .int .i64 0] by rw [hwa]; exact CB.new _ _ _)
  have HWA := Lib.hid hwa
  have US := Lib.hid (fun (W : World) (hW : Args W A xs n cap) => show Calls Tryz.prog 115 #[.string ⟨c.toArray⟩, .slice A n cap] W fun e w' => e = .returned (.tuple #[.bool false, .bool b2]) ∧ W.grownBy w' none from
    (usage_any W ⟨c.toArray⟩ c rfl A xs n cap hW.n hW.sr (fun x hx => by have := hW.short x hx; omega)).mono (fun e w' hh => by rw [hu1, hu2] at hh; exact hh))
  have HCL := Lib.hid hcl
  have HU1 := Lib.hid hu1
  have HU2 := Lib.hid hu2
  clear h hS htab ha hwa hu1 hu2 hcl hb2
  go_enter Tryz.func95, Tryz.ntmps95
  go_wp2_with (first
    | (go_at_call 115
       rw [show w.alloc (.cells #[.slice none 0 0, .slice none 0 0, .int .i64 0] 57) = wa from HWA.out.symm]
       refine (US.out _ (HA.out.made GA.out)).mono ?_
       rintro e w1 ⟨rfl, g1⟩
       have G1 := Lib.hid (grown_trans' GA.out g1)
       have C1 := Lib.hid (CA.out.kept g1)
       clear g1)
    | (go_at_call 116
       refine (failed_any w1 ⟨c.toArray⟩ c rfl HCL.out 110 127 (by unfold Bd; decide) (HTI.out.on G1.out)).mono ?_
       rintro e w2 ⟨v2, rfl, o2, g2⟩
       obtain ⟨A2, n2, c2, rfl, hl2⟩ := o2.open_
       have O2 := Lib.hid o2
       have G2 := Lib.hid (grown_trans' G1.out g2)
       have C2 := Lib.hid (C1.out.kept g2)
       clear o2 g2 hl2)
    | (refine wpList_storeC (off := 0) (p := [.slice none 0 0, .slice A2 n2 c2, .int .i64 127]) outT.hi rfl (.tmp 8) (.tmp 23) rfl (.agg #[.slice none 0 0, .slice A2 n2 c2, .int .i64 127]) rfl (out_one _ _ _ rfl rfl) C2.out rfl (Nat.le_refl _) (by first | rfl | go_simp) (by first | rfl | go_simp) ?_
       intro w9 h9 g9
       have C9 := Lib.hid (show CB w9 w.heap.size 57 [.slice none 0 0, .slice A2 n2 c2, .int .i64 127] from h9)
       have G9 := Lib.hid g9
       clear h9 g9))
  refine bodyPost_ret (results_C1 rfl _ outT C9.out rfl (by first | rfl | go_simp)) rfl ?_
  exact co_done (code := 127) (HG.out.made G2.out) H0.out HS.out (OB.nil _) O2.out (Kp.none G2.out) (fun _ => ⟨rfl, G2.out⟩) C2.out (Nat.le_refl _) G9.out (by unfold CmdR; rw [if_pos HU1.out]; exact ⟨rfl, rfl, rfl⟩)
set_option maxRecDepth 20000 in
set_option maxHeartbeats 8000000 in
theorem co_usage (h : SG w0 w sb tb mb M N) (hS : SndM M) (htab : TI w0) (who : ByteArray) (A : Option Addr) (c : List UInt8) (hcl : c.length ≤ 1000000) (xs : List (List UInt8)) (hu1 : (usageF c xs).1 = true) (hu2 : (usageF c xs).2 = false) (n cap : Nat) (ha : Args w A xs n cap) :
    Calls Tryz.prog 95 #[.pointer (some ⟨sb, 0, none⟩), .string who, .string ⟨c.toArray⟩, .slice A n cap] w (CoR w0 w sb tb mb M N who c xs) := by
  have HG := Lib.hid h
  have HA := Lib.hid ha
  have HS := Lib.hid hS
  have HTI := Lib.hid (htab.on h.tg.gr)
  have H0 := Lib.hid h.tg.gr.size
  have hnl : n ≤ 9223372036854775807 := by have h1 := ha.sr.1; have h2 := ha.sr.2.1; rw [List.length_map, ha.n] at h1; unfold maxLen at h2; omega
  obtain ⟨wa, hwa⟩ : ∃ x, x = w.alloc (.cells #[.slice none 0 0, .slice none 0 0, .int .i64 0] 57) := ⟨_, rfl⟩
  have GA := Lib.hid (show w.grownBy wa none by rw [hwa]; exact grown_alloc _ _ _)
  have CA := Lib.hid (show CB wa w.heap.size 57 [.slice none 0 0, .slice none 0 0, .int .i64 0] by rw [hwa]; exact CB.new _ _ _)
  have HWA := Lib.hid hwa
  have US := Lib.hid (fun (W : World) (hW : Args W A xs n cap) => show Calls Tryz.prog 115 #[.string ⟨c.toArray⟩, .slice A n cap] W fun e w' => e = .returned (.tuple #[.bool true, .bool false]) ∧ W.grownBy w' none from
    (usage_any W ⟨c.toArray⟩ c rfl A xs n cap hW.n hW.sr (fun x hx => by have := hW.short x hx; omega)).mono (fun e w' hh => by rw [hu1, hu2] at hh; exact hh))
  have HCL := Lib.hid hcl
  have HU1 := Lib.hid hu1
  have HU2 := Lib.hid hu2
  clear h hS htab ha hwa hu1 hu2 hcl
  go_enter Tryz.func95, Tryz.ntmps95
  go_wp2_with (first
    | (go_at_call 115
       rw [show w.alloc (.cells #[.slice none 0 0, .slice none 0 0, .int .i64 0] 57) = wa from HWA.out.symm]
       refine (US.out _ (HA.out.made GA.out)).mono ?_
       rintro e w1 ⟨rfl, g1⟩
       have G1 := Lib.hid (grown_trans' GA.out g1)
       have C1 := Lib.hid (CA.out.kept g1)
       clear g1)
    | (go_at_call 116
       refine (failed_any w1 ⟨c.toArray⟩ c rfl HCL.out 1 2 (by unfold Bd; decide) (HTI.out.on G1.out)).mono ?_
       rintro e w2 ⟨v2, rfl, o2, g2⟩
       obtain ⟨A2, n2, c2, rfl, hl2⟩ := o2.open_
       have O2 := Lib.hid o2
       have G2 := Lib.hid (grown_trans' G1.out g2)
       have C2 := Lib.hid (C1.out.kept g2)
       clear o2 g2 hl2)
    | (refine wpList_storeC (off := 0) (p := [.slice none 0 0, .slice A2 n2 c2, .int .i64 2]) outT.hi rfl (.tmp 8) (.tmp 28) rfl (.agg #[.slice none 0 0, .slice A2 n2 c2, .int .i64 2]) rfl (out_one _ _ _ rfl rfl) C2.out rfl (Nat.le_refl _) (by first | rfl | go_simp) (by first | rfl | go_simp) ?_
       intro w9 h9 g9
       have C9 := Lib.hid (show CB w9 w.heap.size 57 [.slice none 0 0, .slice A2 n2 c2, .int .i64 2] from h9)
       have G9 := Lib.hid g9
       clear h9 g9))
  refine bodyPost_ret (results_C1 rfl _ outT C9.out rfl (by first | rfl | go_simp)) rfl ?_
  exact co_done (code := 2) (HG.out.made G2.out) H0.out HS.out (OB.nil _) O2.out (Kp.none G2.out) (fun _ => ⟨rfl, G2.out⟩) C2.out (Nat.le_refl _) G9.out (by unfold CmdR; rw [if_neg (by rw [HU1.out]; decide), if_pos HU2.out]; exact ⟨rfl, rfl, rfl⟩)
set_option maxRecDepth 20000 in
set_option maxHeartbeats 8000000 in
theorem co_echo (h : SG w0 w sb tb mb M N) (hS : SndM M) (htab : TI w0) (who : ByteArray) (A : Option Addr) (xs : List (List UInt8)) (n cap : Nat) (ha : Args w A xs n cap) :
    Calls Tryz.prog 95 #[.pointer (some ⟨sb, 0, none⟩), .string who, .string ⟨cEcho.toArray⟩, .slice A n cap] w (CoR w0 w sb tb mb M N who cEcho xs) := by
  have hu1 : (usageF cEcho xs).1 = true := rfl
  have hu2 : (usageF cEcho xs).2 = true := rfl
  have HG := Lib.hid h
  have HA := Lib.hid ha
  have HS := Lib.hid hS
  have HTI := Lib.hid (htab.on h.tg.gr)
  have H0 := Lib.hid h.tg.gr.size
  have hnl : n ≤ 9223372036854775807 := by have h1 := ha.sr.1; have h2 := ha.sr.2.1; rw [List.length_map, ha.n] at h1; unfold maxLen at h2; omega
  obtain ⟨wa, hwa⟩ : ∃ x, x = w.alloc (.cells #[.slice none 0 0, .slice none 0 0, .int .i64 0] 57) := ⟨_, rfl⟩
  have GA := Lib.hid (show w.grownBy wa none by rw [hwa]; exact grown_alloc _ _ _)
  have CA := Lib.hid (show CB wa w.heap.size 57 [.slice none 0 0, .slice none 0 0, .int .i64 0] by rw [hwa]; exact CB.new _ _ _)
  have HWA := Lib.hid hwa
  have US := Lib.hid (fun (W : World) (hW : Args W A xs n cap) => show Calls Tryz.prog 115 #[.string ⟨cEcho.toArray⟩, .slice A n cap] W fun e w' => e = .returned (.tuple #[.bool true, .bool true]) ∧ W.grownBy w' none from
    (usage_any W ⟨cEcho.toArray⟩ cEcho rfl A xs n cap hW.n hW.sr (fun x hx => by have := hW.short x hx; omega)).mono (fun e w' hh => by rw [hu1, hu2] at hh; exact hh))
  have HU1 := Lib.hid hu1
  have HU2 := Lib.hid hu2
  clear h hS htab ha hwa hu1 hu2
  go_enter Tryz.func95, Tryz.ntmps95
  go_wp2_with (first
    | (go_at_call 115
       rw [show w.alloc (.cells #[.slice none 0 0, .slice none 0 0, .int .i64 0] 57) = wa from HWA.out.symm]
       refine (US.out _ (HA.out.made GA.out)).mono ?_
       rintro e w1 ⟨rfl, g1⟩
       have G1 := Lib.hid (grown_trans' GA.out g1)
       have C1 := Lib.hid (CA.out.kept g1)
       clear g1)
    | (go_at_call 117
       refine (join_any w1 A xs n cap HA.out.n (HA.out.made G1.out).sr (by have := HA.out.join.1; omega)).mono ?_
       rintro e w2 ⟨t, rfl, ht, g2⟩
       have HT := Lib.hid ht
       have HTS := Lib.hid (show t.size ≤ 1000 by have h1 : t.data.toList.length = t.size := rfl; rw [ht] at h1; have := HA.out.join.1; omega)
       have G2 := Lib.hid (grown_trans' G1.out g2)
       have C2 := Lib.hid (C1.out.kept g2)
       have z1 : ¬ 9223372036854775807 < t.size + 1 := by have := HTS.out; omega
       obtain ⟨nn, hnn⟩ : ∃ nn, (t ++ ⟨#[10]⟩).size = nn := ⟨_, rfl⟩
       have HNN := Lib.hid hnn
       clear ht g2 hnn)
    | (refine wpList_convO Tryz.underlying9 rfl (.tmp 34) rfl (t ++ ⟨#[10]⟩) (by rw [app_size]; have := HTS.out; have : (⟨#[10]⟩ : ByteArray).size = 1 := rfl; omega) nn HNN.out (by first | rfl | go_simp) ?_
       intro A3 c3 w3 o3 g3 _
       have O3 := Lib.hid o3
       have G3 := Lib.hid (grown_trans' G2.out g3)
       have C3 := Lib.hid (C2.out.kept g3)
       clear o3 g3)
    | (refine wpList_storeC (off := 0) (p := [.slice A3 nn c3, .slice none 0 0, .int .i64 0]) outT.hi rfl (.tmp 8) (.tmp 36) rfl (.agg #[.slice A3 nn c3, .slice none 0 0, .int .i64 0]) rfl (out_one _ _ _ rfl rfl) C3.out rfl (Nat.le_refl _) (by first | rfl | go_simp) (by first | rfl | go_simp) ?_
       intro w9 h9 g9
       have C9 := Lib.hid (show CB w9 w.heap.size 57 [.slice A3 nn c3, .slice none 0 0, .int .i64 0] from h9)
       have G9 := Lib.hid g9
       clear h9 g9))
  refine bodyPost_ret (results_C1 rfl _ outT C9.out rfl (by first | rfl | go_simp)) rfl ?_
  have ho := O3.out
  rw [app_bytes HT.out rfl] at ho
  exact co_done (code := 0) (HG.out.made G3.out) H0.out HS.out ho (OB.nil _) (Kp.none G3.out) (fun _ => ⟨rfl, G3.out⟩) C3.out (Nat.le_refl _) G9.out (by unfold CmdR; rw [if_neg (by rw [HU1.out]; decide), if_neg (by rw [HU2.out]; decide), if_pos rfl]; exact ⟨rfl, rfl, rfl⟩)
set_option maxRecDepth 20000 in
set_option maxHeartbeats 8000000 in
theorem co_whoami (h : SG w0 w sb tb mb M N) (hS : SndM M) (htab : TI w0) (who : ByteArray) (hw : who.size ≤ 1000) (A : Option Addr) (n cap : Nat) (ha : Args w A [] n cap) :
    Calls Tryz.prog 95 #[.pointer (some ⟨sb, 0, none⟩), .string who, .string ⟨cWhoami.toArray⟩, .slice A n cap] w (CoR w0 w sb tb mb M N who cWhoami []) := by
  have hu1 : (usageF cWhoami []).1 = true := rfl
  have hu2 : (usageF cWhoami []).2 = true := rfl
  have HG := Lib.hid h
  have HA := Lib.hid ha
  have HS := Lib.hid hS
  have HTI := Lib.hid (htab.on h.tg.gr)
  have H0 := Lib.hid h.tg.gr.size
  have hnl : n ≤ 9223372036854775807 := by have h1 := ha.sr.1; have h2 := ha.sr.2.1; rw [List.length_map, ha.n] at h1; unfold maxLen at h2; omega
  obtain ⟨wa, hwa⟩ : ∃ x, x = w.alloc (.cells #[.slice none 0 0, .slice none 0 0, .int .i64 0] 57) := ⟨_, rfl⟩
  have GA := Lib.hid (show w.grownBy wa none by rw [hwa]; exact grown_alloc _ _ _)
  have CA := Lib.hid (show CB wa w.heap.size 57 [.slice none 0 0, .slice none 0 0, .int .i64 0] by rw [hwa]; exact CB.new _ _ _)
  have HWA := Lib.hid hwa
  have US := Lib.hid (fun (W : World) (hW : Args W A [] n cap) => show Calls Tryz.prog 115 #[.string ⟨cWhoami.toArray⟩, .slice A n cap] W fun e w' => e = .returned (.tuple #[.bool true, .bool true]) ∧ W.grownBy w' none from
    (usage_any W ⟨cWhoami.toArray⟩ cWhoami rfl A [] n cap hW.n hW.sr (fun x hx => by have := hW.short x hx; omega)).mono (fun e w' hh => by rw [hu1, hu2] at hh; exact hh))
  have HTS := Lib.hid hw
  have z1 : ¬ 9223372036854775807 < who.size + 1 := by omega
  obtain ⟨nn, hnn⟩ : ∃ nn, (who ++ ⟨#[10]⟩).size = nn := ⟨_, rfl⟩
  have HNN := Lib.hid hnn
  have HU1 := Lib.hid hu1
  have HU2 := Lib.hid hu2
  clear h hS htab ha hwa hu1 hu2 hw hnn
  go_enter Tryz.func95, Tryz.ntmps95
  go_wp2_with (first
    | (go_at_call 115
       rw [show w.alloc (.cells #[.slice none 0 0, .slice none 0 0, .int .i64 0] 57) = wa from HWA.out.symm]
       refine (US.out _ (HA.out.made GA.out)).mono ?_
       rintro e w1 ⟨rfl, g1⟩
       have G1 := Lib.hid (grown_trans' GA.out g1)
       have C1 := Lib.hid (CA.out.kept g1)
       clear g1)
    | (refine wpList_convO Tryz.underlying9 rfl (.tmp 40) rfl (who ++ ⟨#[10]⟩) (by rw [app_size]; have := HTS.out; have : (⟨#[10]⟩ : ByteArray).size = 1 := rfl; omega) nn HNN.out (by first | rfl | go_simp) ?_
       intro A3 c3 w3 o3 g3 _
       have O3 := Lib.hid o3
       have G3 := Lib.hid (grown_trans' G1.out g3)
       have C3 := Lib.hid (C1.out.kept g3)
       clear o3 g3)
    | (refine wpList_storeC (off := 0) (p := [.slice A3 nn c3, .slice none 0 0, .int .i64 0]) outT.hi rfl (.tmp 8) (.tmp 42) rfl (.agg #[.slice A3 nn c3, .slice none 0 0, .int .i64 0]) rfl (out_one _ _ _ rfl rfl) C3.out rfl (Nat.le_refl _) (by first | rfl | go_simp) (by first | rfl | go_simp) ?_
       intro w9 h9 g9
       have C9 := Lib.hid (show CB w9 w.heap.size 57 [.slice A3 nn c3, .slice none 0 0, .int .i64 0] from h9)
       have G9 := Lib.hid g9
       clear h9 g9))
  refine bodyPost_ret (results_C1 rfl _ outT C9.out rfl (by first | rfl | go_simp)) rfl ?_
  have ho := O3.out
  rw [app_bytes rfl rfl] at ho
  exact co_done (code := 0) (HG.out.made G3.out) H0.out HS.out ho (OB.nil _) (Kp.none G3.out) (fun _ => ⟨rfl, G3.out⟩) C3.out (Nat.le_refl _) G9.out (by unfold CmdR; rw [if_neg (by rw [HU1.out]; decide), if_neg (by rw [HU2.out]; decide), if_neg (by decide), if_pos rfl]; exact ⟨rfl, rfl, rfl⟩)
set_option maxRecDepth 20000 in
set_option maxHeartbeats 8000000 in
theorem co_exit (h : SG w0 w sb tb mb M N) (hS : SndM M) (htab : TI w0) (who : ByteArray) (A : Option Addr) (a : List UInt8) (hnum : numOk a = true) (n cap : Nat) (ha : Args w A [a] n cap) :
    Calls Tryz.prog 95 #[.pointer (some ⟨sb, 0, none⟩), .string who, .string ⟨cExit.toArray⟩, .slice A n cap] w (CoR w0 w sb tb mb M N who cExit [a]) := by
  have hu1 : (usageF cExit [a]).1 = true := rfl
  have hu2 : (usageF cExit [a]).2 = true := by rw [usage_exit]; exact hnum
  have hn : 1 = n := ha.n
  subst hn
  obtain ⟨b, off, rfl⟩ := ha.some_ (by omega)
  have HG := Lib.hid h
  have HA := Lib.hid ha
  have HS := Lib.hid hS
  have HTI := Lib.hid (htab.on h.tg.gr)
  have H0 := Lib.hid h.tg.gr.size
  have hnl : 1 ≤ 9223372036854775807 := by have h1 := ha.sr.1; have h2 := ha.sr.2.1; rw [List.length_map, ha.n] at h1; unfold maxLen at h2; omega
  obtain ⟨wa, hwa⟩ : ∃ x, x = w.alloc (.cells #[.slice none 0 0, .slice none 0 0, .int .i64 0] 57) := ⟨_, rfl⟩
  have GA := Lib.hid (show w.grownBy wa none by rw [hwa]; exact grown_alloc _ _ _)
  have CA := Lib.hid (show CB wa w.heap.size 57 [.slice none 0 0, .slice none 0 0, .int .i64 0] by rw [hwa]; exact CB.new _ _ _)
  have HWA := Lib.hid hwa
  have US := Lib.hid (fun (W : World) (hW : Args W (some ⟨b, off, none⟩) [a] 1 cap) => show Calls Tryz.prog 115 #[.string ⟨cExit.toArray⟩, .slice (some ⟨b, off, none⟩) 1 cap] W fun e w' => e = .returned (.tuple #[.bool true, .bool true]) ∧ W.grownBy w' none from
    (usage_any W ⟨cExit.toArray⟩ cExit rfl (some ⟨b, off, none⟩) [a] 1 cap hW.n hW.sr (fun x hx => by have := hW.short x hx; omega)).mono (fun e w' hh => by rw [hu1, hu2] at hh; exact hh))
  have VA := Lib.hid (fun (W : World) => value_any W ⟨a.toArray⟩ a rfl (num_digits hnum) (num_len hnum))
  have HU1 := Lib.hid hu1
  have HU2 := Lib.hid hu2
  clear h hS htab ha hwa hu1 hu2 hnum hnl
  go_enter Tryz.func95, Tryz.ntmps95
  go_wp2_with (first
    | (go_at_call 115
       rw [show w.alloc (.cells #[.slice none 0 0, .slice none 0 0, .int .i64 0] 57) = wa from HWA.out.symm]
       refine (US.out _ (HA.out.made GA.out)).mono ?_
       rintro e w1 ⟨rfl, g1⟩
       have G1 := Lib.hid (grown_trans' GA.out g1)
       have C1 := Lib.hid (CA.out.kept g1)
       have k1 := (HA.out.made G1.out).at2 (k := 0) rfl
       rw [Nat.add_zero] at k1
       clear g1)
    | (go_at_call 118
       refine (VA.out _).mono ?_
       rintro e w2 ⟨rfl, rfl⟩)
    | (refine wpList_storeC (off := 0) (p := [.slice none 0 0, .slice none 0 0, .int .i64 (valF a)]) outT.hi rfl (.tmp 8) (.tmp 49) rfl (.agg #[.slice none 0 0, .slice none 0 0, .int .i64 (valF a)]) rfl (out_one _ _ _ rfl rfl) C1.out rfl (Nat.le_refl _) (by first | rfl | go_simp) (by first | rfl | go_simp) ?_
       intro w9 h9 g9
       have C9 := Lib.hid (show CB w9 w.heap.size 57 [.slice none 0 0, .slice none 0 0, .int .i64 (valF a)] from h9)
       have G9 := Lib.hid g9
       clear h9 g9))
  refine bodyPost_ret (results_C1 rfl _ outT C9.out rfl (by first | rfl | go_simp)) rfl ?_
  exact co_done (code := valF a) (HG.out.made G1.out) H0.out HS.out (OB.nil _) (OB.nil _) (Kp.none G1.out) (fun _ => ⟨rfl, G1.out⟩) C1.out (Nat.le_refl _) G9.out (by unfold CmdR; rw [if_neg (by rw [HU1.out]; decide), if_neg (by rw [HU2.out]; decide), if_neg (by decide), if_neg (by decide), if_pos rfl]; exact ⟨rfl, rfl, rfl⟩)
set_option maxRecDepth 20000 in
set_option maxHeartbeats 8000000 in
theorem co_over_no (h : SG w0 w sb tb mb M N) (hS : SndM M) (htab : TI w0) (who : ByteArray) (A : Option Addr) (n cap : Nat) (c : List UInt8) (hcl : c.length ≤ 1000000) (xs : List (List UInt8)) (hu1 : (usageF c xs).1 = true) (hu2 : (usageF c xs).2 = true) (hne : c ≠ cEcho ∧ c ≠ cWhoami ∧ c ≠ cExit)
    (hov : ∀ W, SG w0 W sb tb mb M N → Args W A xs n cap → Calls Tryz.prog 119 #[.pointer (some ⟨sb, 0, none⟩), .string who, .string ⟨c.toArray⟩, .slice A n cap] W (OvR w0 W sb tb mb M N who c xs))
    (hbd : Bd (treeC M who c xs)) (he : treeC M who c xs ≠ 0) (ha : Args w A xs n cap) :
    Calls Tryz.prog 95 #[.pointer (some ⟨sb, 0, none⟩), .string who, .string ⟨c.toArray⟩, .slice A n cap] w (CoR w0 w sb tb mb M N who c xs) := by
  have HG := Lib.hid h
  have HA := Lib.hid ha
  have HS := Lib.hid hS
  have HTI := Lib.hid (htab.on h.tg.gr)
  have H0 := Lib.hid h.tg.gr.size
  have hnl : n ≤ 9223372036854775807 := by have h1 := ha.sr.1; have h2 := ha.sr.2.1; rw [List.length_map, ha.n] at h1; unfold maxLen at h2; omega
  obtain ⟨wa, hwa⟩ : ∃ x, x = w.alloc (.cells #[.slice none 0 0, .slice none 0 0, .int .i64 0] 57) := ⟨_, rfl⟩
  have GA := Lib.hid (show w.grownBy wa none by rw [hwa]; exact grown_alloc _ _ _)
  have CA := Lib.hid (show CB wa w.heap.size 57 [.slice none 0 0, .slice none 0 0, .int .i64 0] by rw [hwa]; exact CB.new _ _ _)
  have HWA := Lib.hid hwa
  have US := Lib.hid (fun (W : World) (hW : Args W A xs n cap) => show Calls Tryz.prog 115 #[.string ⟨c.toArray⟩, .slice A n cap] W fun e w' => e = .returned (.tuple #[.bool true, .bool true]) ∧ W.grownBy w' none from
    (usage_any W ⟨c.toArray⟩ c rfl A xs n cap hW.n hW.sr (fun x hx => by have := hW.short x hx; omega)).mono (fun e w' hh => by rw [hu1, hu2] at hh; exact hh))
  have HCL := Lib.hid hcl
  have HNE := Lib.hid hne
  have HOV := Lib.hid hov
  have HBD := Lib.hid hbd
  have HE := Lib.hid he
  have e1 : (c == [101, 99, 104, 111]) = false := beq_eq_false_iff_ne.2 hne.1
  have e2 : (c == [119, 104, 111, 97, 109, 105]) = false := beq_eq_false_iff_ne.2 hne.2.1
  have e3 : (c == [101, 120, 105, 116]) = false := beq_eq_false_iff_ne.2 hne.2.2
  obtain ⟨z, hz⟩ : ∃ z, treeC M who c xs = z := ⟨_, rfl⟩
  have ez : (z == 0) = false := by rw [← hz]; exact beq_eq_false_iff_ne.2 he
  have HZ := Lib.hid hz
  have HU1 := Lib.hid hu1
  have HU2 := Lib.hid hu2
  clear h hS htab ha hwa hu1 hu2 hcl hne hov hbd he hz
  go_enter Tryz.func95, Tryz.ntmps95
  go_wp2_with (first
    | (go_at_call 115
       rw [show w.alloc (.cells #[.slice none 0 0, .slice none 0 0, .int .i64 0] 57) = wa from HWA.out.symm]
       refine (US.out _ (HA.out.made GA.out)).mono ?_
       rintro e w1 ⟨rfl, g1⟩
       have G1 := Lib.hid (grown_trans' GA.out g1)
       have C1 := Lib.hid (CA.out.kept g1)
       clear g1)
    | (go_at_call 119
       refine (HOV.out _ (HG.out.made G1.out) (HA.out.made G1.out)).mono ?_
       rintro e w2 ⟨v2, o2, M', rfl, ob2, sg2, sn2, kp2, q2, d2⟩
       rw [HZ.out]
       obtain ⟨A2, n2, c2, rfl, hl2⟩ := ob2.open_
       have O2 := Lib.hid ob2
       have S2 := Lib.hid sg2
       have N2 := Lib.hid sn2
       have K2 := Lib.hid ((Kp.none G1.out).trans kp2)
       have Q2 := Lib.hid q2
       have D2 := Lib.hid d2
       have C2 := Lib.hid (show CB w2 w.heap.size 57 [.slice none 0 0, .slice none 0 0, .int .i64 0] from kp2.blk _ _ _ _ C1.out (by decide))
       clear ob2 sg2 sn2 kp2 q2 d2 hl2)
    | (go_at_call 116
       refine (failed_any w2 ⟨c.toArray⟩ c rfl HCL.out z 1 (by rw [← HZ.out]; exact HBD.out) (TI.on HTI.out (grown_trans' G1.out (Q2.out (.inl HE.out)).2))).mono ?_
       rintro e w3 ⟨v3, rfl, o3, g3⟩
       obtain ⟨A3, n3, c3, rfl, hl3⟩ := o3.open_
       have O3 := Lib.hid o3
       have G3 := Lib.hid g3
       have C3 := Lib.hid (C2.out.kept g3)
       clear o3 g3 hl3)
    | (refine wpList_storeC (off := 0) (p := [.slice none 0 0, .slice A3 n3 c3, .int .i64 1]) outT.hi rfl (.tmp 8) (.tmp 62) rfl (.agg #[.slice none 0 0, .slice A3 n3 c3, .int .i64 1]) rfl (out_one _ _ _ rfl rfl) C3.out rfl (Nat.le_refl _) (by first | rfl | go_simp) (by first | rfl | go_simp) ?_
       intro w9 h9 g9
       have C9 := Lib.hid (show CB w9 w.heap.size 57 [.slice none 0 0, .slice A3 n3 c3, .int .i64 1] from h9)
       have G9 := Lib.hid g9
       clear h9 g9))
  refine bodyPost_ret (results_C1 rfl _ outT C9.out rfl (by first | rfl | go_simp)) rfl ?_
  have hq := Q2.out (.inl HE.out)
  obtain ⟨rfl, hg2⟩ := hq
  have hgg := grown_trans' G1.out (grown_trans' hg2 G3.out)
  refine co_done (code := 1) (S2.out.made G3.out) H0.out N2.out (OB.nil _) O3.out (Kp.none hgg) (fun _ => ⟨rfl, hgg⟩) C3.out (Nat.le_refl _) G9.out ?_
  unfold CmdR
  rw [if_neg (by rw [HU1.out]; decide), if_neg (by rw [HU2.out]; decide), if_neg HNE.out.1, if_neg HNE.out.2.1, if_neg HNE.out.2.2, if_pos HE.out]
  exact ⟨rfl, by rw [HZ.out], rfl⟩
set_option maxRecDepth 20000 in
set_option maxHeartbeats 8000000 in
theorem co_over_ok (h : SG w0 w sb tb mb M N) (hS : SndM M) (htab : TI w0) (who : ByteArray) (A : Option Addr) (n cap : Nat) (c : List UInt8) (hcl : c.length ≤ 1000000) (xs : List (List UInt8)) (hu1 : (usageF c xs).1 = true) (hu2 : (usageF c xs).2 = true) (hne : c ≠ cEcho ∧ c ≠ cWhoami ∧ c ≠ cExit)
    (hov : ∀ W, SG w0 W sb tb mb M N → Args W A xs n cap → Calls Tryz.prog 119 #[.pointer (some ⟨sb, 0, none⟩), .string who, .string ⟨c.toArray⟩, .slice A n cap] W (OvR w0 W sb tb mb M N who c xs))
    (hbd : Bd (treeC M who c xs)) (he : treeC M who c xs = 0) (ha : Args w A xs n cap) :
    Calls Tryz.prog 95 #[.pointer (some ⟨sb, 0, none⟩), .string who, .string ⟨c.toArray⟩, .slice A n cap] w (CoR w0 w sb tb mb M N who c xs) := by
  have HG := Lib.hid h
  have HA := Lib.hid ha
  have HS := Lib.hid hS
  have HTI := Lib.hid (htab.on h.tg.gr)
  have H0 := Lib.hid h.tg.gr.size
  have hnl : n ≤ 9223372036854775807 := by have h1 := ha.sr.1; have h2 := ha.sr.2.1; rw [List.length_map, ha.n] at h1; unfold maxLen at h2; omega
  obtain ⟨wa, hwa⟩ : ∃ x, x = w.alloc (.cells #[.slice none 0 0, .slice none 0 0, .int .i64 0] 57) := ⟨_, rfl⟩
  have GA := Lib.hid (show w.grownBy wa none by rw [hwa]; exact grown_alloc _ _ _)
  have CA := Lib.hid (show CB wa w.heap.size 57 [.slice none 0 0, .slice none 0 0, .int .i64 0] by rw [hwa]; exact CB.new _ _ _)
  have HWA := Lib.hid hwa
  have US := Lib.hid (fun (W : World) (hW : Args W A xs n cap) => show Calls Tryz.prog 115 #[.string ⟨c.toArray⟩, .slice A n cap] W fun e w' => e = .returned (.tuple #[.bool true, .bool true]) ∧ W.grownBy w' none from
    (usage_any W ⟨c.toArray⟩ c rfl A xs n cap hW.n hW.sr (fun x hx => by have := hW.short x hx; omega)).mono (fun e w' hh => by rw [hu1, hu2] at hh; exact hh))
  have HCL := Lib.hid hcl
  have HNE := Lib.hid hne
  have HOV := Lib.hid hov
  have HBD := Lib.hid hbd
  have HE := Lib.hid he
  have e1 : (c == [101, 99, 104, 111]) = false := beq_eq_false_iff_ne.2 hne.1
  have e2 : (c == [119, 104, 111, 97, 109, 105]) = false := beq_eq_false_iff_ne.2 hne.2.1
  have e3 : (c == [101, 120, 105, 116]) = false := beq_eq_false_iff_ne.2 hne.2.2
  have hz := he
  have HZ := Lib.hid hz
  have HU1 := Lib.hid hu1
  have HU2 := Lib.hid hu2
  clear h hS htab ha hwa hu1 hu2 hcl hne hov hbd he hz
  go_enter Tryz.func95, Tryz.ntmps95
  go_wp2_with (first
    | (go_at_call 115
       rw [show w.alloc (.cells #[.slice none 0 0, .slice none 0 0, .int .i64 0] 57) = wa from HWA.out.symm]
       refine (US.out _ (HA.out.made GA.out)).mono ?_
       rintro e w1 ⟨rfl, g1⟩
       have G1 := Lib.hid (grown_trans' GA.out g1)
       have C1 := Lib.hid (CA.out.kept g1)
       clear g1)
    | (go_at_call 119
       refine (HOV.out _ (HG.out.made G1.out) (HA.out.made G1.out)).mono ?_
       rintro e w2 ⟨v2, o2, M', rfl, ob2, sg2, sn2, kp2, q2, d2⟩
       rw [HZ.out]
       obtain ⟨A2, n2, c2, rfl, hl2⟩ := ob2.open_
       have O2 := Lib.hid ob2
       have S2 := Lib.hid sg2
       have N2 := Lib.hid sn2
       have K2 := Lib.hid ((Kp.none G1.out).trans kp2)
       have Q2 := Lib.hid q2
       have D2 := Lib.hid d2
       have C2 := Lib.hid (show CB w2 w.heap.size 57 [.slice none 0 0, .slice none 0 0, .int .i64 0] from kp2.blk _ _ _ _ C1.out (by decide))
       clear ob2 sg2 sn2 kp2 q2 d2 hl2)
    | (refine wpList_storeC (off := 0) (p := [.slice A2 n2 c2, .slice none 0 0, .int .i64 0]) outT.hi rfl (.tmp 8) (.tmp 64) rfl (.agg #[.slice A2 n2 c2, .slice none 0 0, .int .i64 0]) rfl (out_one _ _ _ rfl rfl) C2.out rfl (Nat.le_refl _) (by first | rfl | go_simp) (by first | rfl | go_simp) ?_
       intro w9 h9 g9
       have C9 := Lib.hid (show CB w9 w.heap.size 57 [.slice A2 n2 c2, .slice none 0 0, .int .i64 0] from h9)
       have G9 := Lib.hid g9
       clear h9 g9))
  refine bodyPost_ret (results_C1 rfl _ outT C9.out rfl (by first | rfl | go_simp)) rfl ?_
  refine co_done (code := 0) S2.out H0.out N2.out O2.out (OB.nil _) K2.out (fun hh => ?_) C2.out (Nat.le_refl _) G9.out ?_
  · have hq := Q2.out (.inr (hh.resolve_left (by simp)))
    exact ⟨hq.1, grown_trans' G1.out hq.2⟩
  · unfold CmdR
    rw [if_neg (by rw [HU1.out]; decide), if_neg (by rw [HU2.out]; decide), if_neg HNE.out.1, if_neg HNE.out.2.1, if_neg HNE.out.2.2, if_neg (by rw [HE.out]; decide)]
    exact ⟨rfl, rfl, (D2.out HE.out).mono (fun v l ho => ho.below (below_of_none G1.out)) (fun _ _ e => e)⟩
end
end Go.Proofs.YtlkchajkhplapaaGreatDoor
