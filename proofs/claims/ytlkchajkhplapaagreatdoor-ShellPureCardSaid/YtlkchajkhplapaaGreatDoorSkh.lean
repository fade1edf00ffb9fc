/- A line's command, whatever it is. -/
import Derived.Test.YtlkchajkhplapaaGreatDoorSkf
namespace Go.Proofs.YtlkchajkhplapaaGreatDoor
open Go.RowKit Go.Maps Go.WideMaps

theorem treeC_bd (M : Tr) (who : ByteArray) (c : List UInt8) (xs : List (List UInt8)) : Bd (treeC M who c xs) := by
  unfold treeC
  split
  · exact readR_bd _ _ _
  · split
    · exact listR_bd _ _ _
    · split
      · exact writeC_bd _ _ _ _ _
      · split
        · exact mkdirC_bd _ _ _ _
        · split
          · exact rmC_bd _ _ _
          · exact chmodR_bd _ _ _ _
theorem just_one {xs : List (List UInt8)} (h : decide (xs.length = 1) = true) : ∃ p, xs = [p] := List.length_eq_one_iff.1 (of_decide_eq_true h)
section
variable {w0 w : World} {sb tb mb N : Nat} {M : Tr}
theorem co_any (h : SG w0 w sb tb mb M N) (hS : SndM M) (htab : TI w0) (who : ByteArray) (hw : who.size ≤ 100) (A : Option Addr) (c : List UInt8) (hcl : c.length ≤ 1000000) (xs : List (List UInt8)) (n cap : Nat) (ha : Args w A xs n cap) :
    Calls Tryz.prog 95 #[.pointer (some ⟨sb, 0, none⟩), .string who, .string ⟨c.toArray⟩, .slice A n cap] w (CoR w0 w sb tb mb M N who c xs) := by
  by_cases h1 : (usageF c xs).1 = false
  · exact co_unknown h hS htab who A c hcl xs h1 n cap ha
  have h1 : (usageF c xs).1 = true := by simpa using h1
  by_cases h2 : (usageF c xs).2 = false
  · exact co_usage h hS htab who A c hcl xs h1 h2 n cap ha
  have h2 : (usageF c xs).2 = true := by simpa using h2
  by_cases e1 : c = cEcho
  · subst e1
    exact co_echo h hS htab who A xs n cap ha
  by_cases e2 : c = cWhoami
  · subst e2
    rw [usage_whoami] at h2
    obtain rfl : xs = [] := List.eq_nil_of_length_eq_zero (of_decide_eq_true h2)
    exact co_whoami h hS htab who (by omega) A n cap ha
  by_cases e3 : c = cExit
  · subst e3
    rw [usage_exit] at h2
    simp only [Bool.and_eq_true] at h2
    obtain ⟨a, rfl⟩ := just_one h2.1
    exact co_exit h hS htab who A a h2.2 n cap ha
  have key : ∀ W, SG w0 W sb tb mb M N → Args W A xs n cap → Calls Tryz.prog 119 #[.pointer (some ⟨sb, 0, none⟩), .string who, .string ⟨c.toArray⟩, .slice A n cap] W (OvR w0 W sb tb mb M N who c xs) := by
    intro W hW hA
    by_cases e4 : c = cCat
    · subst e4
      rw [usage_cat] at h2
      obtain ⟨p, rfl⟩ := just_one h2
      exact over_cat hW hS who hw A p n cap hA
    by_cases e5 : c = cLs
    · subst e5
      rw [usage_ls] at h2
      obtain ⟨p, rfl⟩ := just_one h2
      exact over_ls hW hS who hw A p n cap hA
    by_cases e6 : c = cMkdir
    · subst e6
      rw [usage_mkdir] at h2
      obtain ⟨p, rfl⟩ := just_one h2
      exact over_mkdir hW hS who hw A p n cap hA
    by_cases e7 : c = cRm
    · subst e7
      rw [usage_rm] at h2
      obtain ⟨p, rfl⟩ := just_one h2
      exact over_rm hW hS who hw A p n cap hA
    by_cases e8 : c = cPut
    · subst e8
      rw [usage_put] at h2
      have h3 := of_decide_eq_true h2
      cases xs with
      | nil => simp at h3
      | cons p ys => exact over_put hW hS who hw A p ys n cap hA
    by_cases e9 : c = cChmod
    · subst e9
      rw [usage_chmod] at h2
      simp only [Bool.and_eq_true] at h2
      have h3 := of_decide_eq_true h2.1
      match xs, h3 with
      | [a, q], _ => exact over_chmod hW hS who hw A a q h2.2 n cap hA
    · unfold usageF at h1
      simp only [if_neg e1, if_neg e2, if_neg e3, if_neg e4, if_neg e5, if_neg e6, if_neg e7, if_neg e8, if_neg e9] at h1
      cases h1
  by_cases he : treeC M who c xs = 0
  · exact co_over_ok h hS htab who A n cap c hcl xs h1 h2 ⟨e1, e2, e3⟩ key (treeC_bd _ _ _ _) he ha
  · exact co_over_no h hS htab who A n cap c hcl xs h1 h2 ⟨e1, e2, e3⟩ key (treeC_bd _ _ _ _) he ha
/-- What a line answers. -/
def LiR (w0 w : World) (sb tb mb : Nat) (M : Tr) (N : Nat) (who : ByteArray) (line : List UInt8) (e : Ending) (w' : World) : Prop :=
  ∃ ov ev out err code M', e = .returned (.agg #[ov, ev, .int .i64 (code : Nat)]) ∧ OB w' ov out ∧ OB w' ev err ∧ SG w0 w' sb tb mb M' N ∧ SndM M' ∧ Kp [63] w w' ∧
    (¬ loudL line code → M' = M ∧ w.grownBy w' none) ∧ LineR (fun v l => OwnB w 0 5 v l) (fun v l => OwnB w' 0 5 v l) M who line out err code M'
theorem li_done {w1 w' : World} {M' : Tr} {who : ByteArray} {line : List UInt8} {ov ev : Value} {out err : List UInt8} {code : Nat} {g : Nat} {cs : List Value}
    (h : SG w0 w1 sb tb mb M' N) (h0 : w0.heap.size ≤ w.heap.size) (hS : SndM M') (ho : OB w1 ov out) (he : OB w1 ev err) (hk : Kp [63] w w1) (hq : ¬ loudL line code → M' = M ∧ w.grownBy w1 none) (hc : CB w1 g 57 cs) (hw : w.heap.size ≤ g) (hg : w1.grownBy w' (some g))
    (hcmd : LineR (fun v l => OwnB w 0 5 v l) (fun v l => OwnB w1 0 5 v l) M who line out err code M') : LiR w0 w sb tb mb M N who line (.returned (.agg #[ov, ev, .int .i64 (code : Nat)])) w' := by
  have hk1 := kp_one hc hg
  refine ⟨ov, ev, out, err, code, M', rfl, hk1.ob ho (by decide), hk1.ob he (by decide), h.far hc (Nat.le_trans h0 hw) hg, hS, ⟨Nat.le_trans hk.size hg.size, fun b cs' t sh hb ht => ?_⟩, fun hh => ⟨(hq hh).1, none_new (hq hh).2 hg hw⟩, hcmd.mono (fun _ _ e => e) (fun v l e => hk1.own e (by decide))⟩
  have h2 := hk.blk _ _ _ _ hb ht
  have hlt := (Array.getElem?_eq_some_iff.1 hb).1
  exact (hg.block b (Array.getElem?_eq_some_iff.1 h2).1 (fun e => by injection e with e; omega)).trans h2
theorem lens_flat : ∀ ps : List (List UInt8), Lib.lens ps = ps.flatten.length
  | [] => rfl
  | x :: ps => by
    have ih := lens_flat ps
    unfold Lib.lens at ih ⊢
    rw [List.map_cons, List.sum_cons, ih, List.flatten_cons, List.length_append]
theorem join_le (xs : List (List UInt8)) : (Lib.join xs [32]).length ≤ xs.length + xs.flatten.length := by
  cases xs with
  | nil => exact Nat.zero_le _
  | cons x ys =>
    rw [Lib.join_length, lens_flat, List.length_cons]
    simp only [List.length_cons, List.length_nil]
    omega
theorem words_le (l : List UInt8) : (wds (pieces1 32 l)).length + (wds (pieces1 32 l)).flatten.length ≤ l.length + 1 := by
  have h1 := pieces_flat 32 l
  have h2 := wds_len (pieces1 32 l)
  rw [wds_flat]
  omega
end
end Go.Proofs.YtlkchajkhplapaaGreatDoor
namespace Go.Proofs.YtlkchajkhplapaaGreatDoor
open Go.RowKit Go.Maps Go.WideMaps

section
variable {w0 w : World} {sb tb mb N : Nat} {M : Tr}
theorem row_ty {w : World} {base n g cap sz : Nat} {Cs : List (List Value)} (hr : RowX w base 9 sz (.slice (some ⟨g, 0, none⟩) n cap) Cs) : ∃ cs sh, w.heap[g]? = some (.cells cs 9 sh) := by
  rcases hr.1.2 with ⟨hv, _⟩ | ⟨g', _, _, hv, _, hg', _⟩
  · injection hv with h1; cases h1
  · injection hv with h1
    injection h1 with h1
    injection h1 with h1
    subst h1
    exact ⟨_, _, hg'⟩
/-- The words behind the first are arguments. -/
theorem args_of {line c : List UInt8} {ys : List (List UInt8)} (hlen : line.length ≤ 80) (hw : wds (pieces1 32 line) = c :: ys) {base n g cap : Nat} (hn : n = ys.length + 1) (hr : RowX w base 9 1 (.slice (some ⟨g, 0, none⟩) n cap) ((c :: ys).map fun x => [kS x])) :
    Args w (tailA g 0 cap) ys (n - 1) (cap - 1) ∧ n ≤ cap ∧ cap ≤ maxLen ∧ w.cell? ⟨g, 0, none⟩ = some (.string ⟨c.toArray⟩) ∧ c.length ≤ 1000000 := by
  obtain ⟨A, c2, hv, hsr, -⟩ := hr.shape
  injection hv with e1 e2 e3
  subst e1 e3
  have hm := words_le line
  rw [hw] at hm
  have h1 : ∀ x ∈ c :: ys, x.length ≤ line.length := fun x hx => by
    rw [← hw] at hx
    exact (wds_mem hx).2.2
  have hty : ∃ cs sh, w.heap[g]? = some (.cells cs 9 sh) := by
    rcases hr.1.2 with ⟨hv, _⟩ | ⟨g', _, _, hv, _, hg', _⟩
    · injection hv with h1; cases h1
    · injection hv with h1
      injection h1 with h1
      injection h1 with h1
      subst h1
      exact ⟨_, _, hg'⟩
  have hj1 := join_le ys
  have hj2 := join_le ys.tail
  simp only [List.length_cons, List.flatten_cons, List.length_append] at hm
  have hjt : (ys.tail).length + (ys.tail).flatten.length ≤ ys.length + ys.flatten.length := by
    cases ys with
    | nil => exact Nat.le_refl _
    | cons y zs => simp only [List.tail_cons, List.length_cons, List.flatten_cons, List.length_append]; omega
  have hc0 : w.cell? ⟨g, 0, none⟩ = some (.string ⟨c.toArray⟩) := by
    obtain ⟨b, off, hA, -, hc⟩ := hsr.elem (k := 0) (by simp)
    injection hA with hA
    injection hA with h2 h3
    subst h2 h3
    exact hc 0 _ rfl
  have h2 := hsr.1
  rw [List.length_map, List.length_cons] at h2
  refine ⟨⟨fun a ha => ?_, sr_tail (by rw [List.map_cons] at hsr; exact hsr), by omega, fun x hx => by have := h1 x (by simp [hx]); omega, by omega, by omega⟩, by omega, hsr.2.1, hc0, by have := h1 c (by simp); omega⟩
  unfold tailA at ha
  split at ha <;> (injection ha with ha; subst ha; exact hty)
set_option maxRecDepth 20000 in
set_option maxHeartbeats 8000000 in
theorem runLine_any (h : SG w0 w sb tb mb M N) (hS : SndM M) (htab : TI w0) (who : ByteArray) (hw : who.size ≤ 100) (s : ByteArray) (line : List UInt8) (hs : s.data.toList = line) (hl : line.length ≤ 1000) :
    Calls Tryz.prog 77 #[.pointer (some ⟨sb, 0, none⟩), .string who, .string s] w (LiR w0 w sb tb mb M N who line) := by
  have hsz : s.size = line.length := by rw [← hs]; rfl
  have HG := Lib.hid h
  have HS := Lib.hid hS
  have H0 := Lib.hid h.tg.gr.size
  obtain ⟨k, hk⟩ : ∃ k, s.size = k := ⟨_, rfl⟩
  have HL := Lib.hid (show line.length = k by omega)
  obtain ⟨wa, hwa⟩ : ∃ x, x = w.alloc (.cells #[.slice none 0 0, .slice none 0 0, .int .i64 0] 57) := ⟨_, rfl⟩
  have GA := Lib.hid (show w.grownBy wa none by rw [hwa]; exact grown_alloc _ _ _)
  have CA := Lib.hid (show CB wa w.heap.size 57 [.slice none 0 0, .slice none 0 0, .int .i64 0] by rw [hwa]; exact CB.new _ _ _)
  have HWA := Lib.hid hwa
  have WO := Lib.hid (fun (W : World) => words_any W s line hs (by omega))
  have CO := Lib.hid (fun (W : World) (hW : SG w0 W sb tb mb M N) (A : Option Addr) (c : List UInt8) (hcl : c.length ≤ 1000000) (xs : List (List UInt8)) (n cap : Nat) (ha : Args W A xs n cap) => co_any hW hS htab who hw A c hcl xs n cap ha)
  by_cases h80 : 80 < k
  · have h80i : (80 : Int) < (k : Int) := by omega
    have H80 := Lib.hid (show 80 < line.length by omega)
    clear h hS htab hw hs hl hsz hwa h80
    go_enter Tryz.func77, Tryz.ntmps77
    go_wp2_with (refine wpList_storeC (off := 0) (p := [.slice none 0 0, .slice none 0 0, .int .i64 126]) outT.hi rfl (.tmp 6) (.tmp 11) rfl (.agg #[.slice none 0 0, .slice none 0 0, .int .i64 126]) rfl (out_one _ _ _ rfl rfl) (CB.new w 57 [.slice none 0 0, .slice none 0 0, .int .i64 0]) rfl (Nat.le_refl _) (by first | rfl | go_simp) (by first | rfl | go_simp) ?_
                 intro w9 h9 g9
                 rw [show w.alloc (.cells [.slice none 0 0, .slice none 0 0, .int .i64 0].toArray 57) = wa from HWA.out.symm] at g9
                 have C9 := Lib.hid (show CB w9 w.heap.size 57 [.slice none 0 0, .slice none 0 0, .int .i64 126] from h9)
                 have G9 := Lib.hid g9
                 clear h9 g9)
    refine bodyPost_ret (results_C1 rfl _ outT C9.out rfl (by first | rfl | go_simp)) rfl ?_
    exact li_done (code := 126) (HG.out.made GA.out) H0.out HS.out (OB.nil _) (OB.nil _) (Kp.none GA.out) (fun _ => ⟨rfl, GA.out⟩) CA.out (Nat.le_refl _) G9.out (by unfold LineR; rw [if_pos H80.out]; exact ⟨rfl, rfl, rfl⟩)
  have h80i : ¬ (80 : Int) < (k : Int) := by omega
  have H80 := Lib.hid (show line.length ≤ 80 by omega)
  cases hww : wds (pieces1 32 line) with
  | nil =>
    rw [hww] at WO
    have HWW := Lib.hid hww
    clear h hS htab hw hs hl hsz hwa h80 hww
    go_enter Tryz.func77, Tryz.ntmps77
    go_wp2_with (first
      | (go_at_call 31
         rw [show w.alloc (.cells #[.slice none 0 0, .slice none 0 0, .int .i64 0] 57) = wa from HWA.out.symm]
         refine (WO.out _).mono ?_
         rintro e w1 ⟨v, rfl, hr, g1⟩
         obtain ⟨A, cap, hv, -, -⟩ := hr.shape
         rw [List.map_nil, List.length_nil] at hv
         subst hv
         have G1 := Lib.hid (grown_trans' GA.out g1)
         have C1 := Lib.hid (CA.out.kept g1)
         clear hr g1)
      | (refine wpList_storeC (off := 0) (p := [.slice none 0 0, .slice none 0 0, .int .i64 0]) outT.hi rfl (.tmp 6) (.tmp 17) rfl (.agg #[.slice none 0 0, .slice none 0 0, .int .i64 0]) rfl (out_one _ _ _ rfl rfl) C1.out rfl (Nat.le_refl _) (by first | rfl | go_simp) (by first | rfl | go_simp) ?_
         intro w9 h9 g9
         have C9 := Lib.hid (show CB w9 w.heap.size 57 [.slice none 0 0, .slice none 0 0, .int .i64 0] from h9)
         have G9 := Lib.hid g9
         clear h9 g9))
    refine bodyPost_ret (results_C1 rfl _ outT C9.out rfl (by first | rfl | go_simp)) rfl ?_
    exact li_done (code := 0) (HG.out.made G1.out) H0.out HS.out (OB.nil _) (OB.nil _) (Kp.none G1.out) (fun _ => ⟨rfl, G1.out⟩) C1.out (Nat.le_refl _) G9.out (by unfold LineR; rw [if_neg (by have := H80.out; omega), HWW.out]; exact ⟨rfl, rfl, rfl⟩)
  | cons c ys =>
    rw [hww] at WO
    have HWW := Lib.hid hww
    obtain ⟨n, hn⟩ : ∃ n, n = ys.length + 1 := ⟨_, rfl⟩
    have HN := Lib.hid hn
    have hn0 : 0 < n := by omega
    have HP0 := Lib.hid hn0
    have hn1 : ((n : Int) == 0) = false := beq_eq_false_iff_ne.2 (by omega)
    have hni : (1 : Int) ≤ (n : Int) := by omega
    clear h hS htab hw hs hl hsz hwa h80 hww hn
    go_enter Tryz.func77, Tryz.ntmps77
    go_wp2_with (first
      | (go_at_call 31
         rw [show w.alloc (.cells #[.slice none 0 0, .slice none 0 0, .int .i64 0] 57) = wa from HWA.out.symm]
         refine (WO.out _).mono ?_
         rintro e w1 ⟨v, rfl, hr, g1⟩
         obtain ⟨g, cap, cs, hv, -, -⟩ := rowX_open hr (by simp)
         rw [List.length_map, List.length_cons, ← HN.out] at hv
         subst hv
         obtain ⟨ha, hncap, hcm, k0, hcl⟩ := args_of H80.out HWW.out HN.out hr
         have G1 := Lib.hid (grown_trans' GA.out g1)
         have C1 := Lib.hid (CA.out.kept g1)
         have HA1 := Lib.hid ha
         have HCL := Lib.hid hcl
         have hsl : ∀ wx, (Instr.sliceAt 47 (.slice (some ⟨g, 0, none⟩) n cap) (some (.int .i64 1)) none none).run Tryz.prog wx = .ok (.slice (tailA g 0 cap) (n - 1) (cap - 1)) wx := fun wx => run_tailS (b := g) (off := 0) (by have := HN.out; omega) hncap wx
         have hcl2 : n ≤ 9223372036854775807 := by unfold maxLen at hcm; omega
         have K0 := Lib.hid k0
         have HSL := Lib.hid hsl
         have HTY := Lib.hid (row_ty hr)
         clear hr g1 ha hcl hcm hncap k0 hsl))
    -- REGION
    refine helds_begin (fun W => W.heap[g]? = w1.heap[g]?) (by kernel_rfl) rfl (fun _ => ?_)
    refine helds_take (i := 0) (d := some 18) (v := ?vrl_1) (by assumption) rfl rfl (by kernel_rfl) (fun _ _ _ h => h) ?yrl_1 ?_; case yrl_1 => (refine Or.inl ⟨rfl, fun wx hS => ?_⟩; go_simp; try with_reducible rfl)
    try simp only [Act.put, List.setIfInBounds_toArray, List.set_cons_zero, List.set_cons_succ]
    refine helds_take (i := 1) (d := some 19) (v := ?vrl_2) (by assumption) rfl rfl (by kernel_rfl) (fun _ _ _ h => h) ?yrl_2 ?_; case yrl_2 => (refine Or.inl ⟨rfl, fun wx hS => ?_⟩; go_simp; try with_reducible rfl)
    try simp only [Act.put, List.setIfInBounds_toArray, List.set_cons_zero, List.set_cons_succ]
    refine helds_take (i := 2) (d := some 20) (v := ?vrl_3) (by assumption) rfl rfl (by kernel_rfl) (fun _ _ _ h => h) ?yrl_3 ?_; case yrl_3 => (refine Or.inl ⟨rfl, fun wx hS => ?_⟩; go_simp; try with_reducible rfl)
    try simp only [Act.put, List.setIfInBounds_toArray, List.set_cons_zero, List.set_cons_succ]
    refine helds_take (i := 3) (d := some 21) (v := ?vrl_4) (by assumption) rfl rfl (by kernel_rfl) (fun _ _ _ h => h) ?yrl_4 ?_; case yrl_4 => (refine Or.inl ⟨rfl, fun wx hS => ?_⟩; have q := HP0.out; go_simp; try with_reducible rfl)
    try simp only [Act.put, List.setIfInBounds_toArray, List.set_cons_zero, List.set_cons_succ]
    refine helds_take (i := 4) (d := some 22) (v := ?vrl_5) (by assumption) rfl rfl (by kernel_rfl) (fun _ _ _ h => h) ?yrl_5 ?_; case yrl_5 => (refine Or.inl ⟨rfl, fun wx hS => ?_⟩; have q := (World.cell?_of_block (show wx.heap[(⟨g, 0, none⟩ : Addr).block]? = w1.heap[(⟨g, 0, none⟩ : Addr).block]? from hS)).trans K0.out; go_simp; try with_reducible rfl)
    try simp only [Act.put, List.setIfInBounds_toArray, List.set_cons_zero, List.set_cons_succ]
    refine helds_take (i := 5) (d := some 23) (v := ?vrl_6) (by assumption) rfl rfl (by kernel_rfl) (fun _ _ _ h => h) ?yrl_6 ?_; case yrl_6 => (refine Or.inl ⟨rfl, fun wx hS => ?_⟩; go_simp; try with_reducible rfl)
    try simp only [Act.put, List.setIfInBounds_toArray, List.set_cons_zero, List.set_cons_succ]
    refine helds_take (i := 6) (d := some 24) (v := ?vrl_7) (by assumption) rfl rfl (by kernel_rfl) (fun _ _ _ h => h) ?yrl_7 ?_; case yrl_7 => (refine Or.inl ⟨rfl, fun wx hS => ?_⟩; have q := HSL.out wx; go_simp; try with_reducible rfl)
    try simp only [Act.put, List.setIfInBounds_toArray, List.set_cons_zero, List.set_cons_succ]
    refine helds_one (i := 7) rfl (by kernel_rfl) rfl (fun K hK => ?_)
    refine wp_callU (d := some 25) (f := 95) (args := #[.pointer (some ⟨sb, 0, none⟩), .string who, .string ⟨c.toArray⟩, .slice (tailA g 0 cap) (n - 1) (cap - 1)]) rfl (by first | rfl | go_simp) ?_
    refine (CO.out _ (HG.out.made (grown_trans' G1.out (grown_drew (World.grownBy.refl w1 none)))) _ c HCL.out ys _ _ (HA1.out.made (grown_drew (World.grownBy.refl w1 none)))).mono ?_
    rintro e w2 ⟨ov, ev, out, err, code, M', rfl, ob, eb, sg, sn, kp, q, d⟩
    have kp := (Kp.none (ts := [63]) (grown_drew (World.grownBy.refl w1 none))).trans kp
    obtain ⟨A2, n2, c2, rfl, hl2⟩ := ob.open_
    obtain ⟨A3, n3, c3, rfl, hl3⟩ := eb.open_
    have hS2 : w2.heap[g]? = w1.heap[g]? := by
      obtain ⟨cs, sh, hh⟩ := HTY.out
      exact (kp.blk _ _ _ _ hh (by decide)).trans hh.symm
    have O2 := Lib.hid ob
    have E2 := Lib.hid eb
    have S2 := Lib.hid sg
    have N2 := Lib.hid sn
    have K2 := Lib.hid ((Kp.none G1.out).trans kp)
    have Q2 := Lib.hid q
    have D2 := Lib.hid d
    have C2 := Lib.hid (show CB w2 w.heap.size 57 [.slice none 0 0, .slice none 0 0, .int .i64 0] from kp.blk _ _ _ _ C1.out (by decide))
    clear ob eb sg sn kp q d hl2 hl3
    refine ⟨_, rfl, ?_⟩
    refine hK.out _ _ (by assumption) (fun _ => ?_)
    clear hK K
    try simp only [Act.put, List.setIfInBounds_toArray, List.set_cons_zero, List.set_cons_succ]
    refine helds_one (i := 8) rfl (by kernel_rfl) rfl (fun K hK => ?_)
    refine wp_storeC (off := 0) (p := [.slice A2 n2 c2, .slice A3 n3 c3, .int .i64 code]) outT.hi rfl (.tmp 6) (.tmp 25) rfl (.agg #[.slice A2 n2 c2, .slice A3 n3 c3, .int .i64 code]) rfl (out_one _ _ _ rfl rfl) C2.out rfl (Nat.le_refl _) (by first | rfl | go_simp) (by first | rfl | go_simp) ?_
    intro w9 h9 g9
    have hS9 : w9.heap[g]? = w1.heap[g]? := by
      obtain ⟨cs, sh, hh⟩ := HTY.out
      exact ((kp_one C2.out g9).blk _ _ _ _ (hS2.trans hh) (by decide)).trans hh.symm
    have C9 := Lib.hid (show CB w9 w.heap.size 57 [.slice A2 n2 c2, .slice A3 n3 c3, .int .i64 code] from h9)
    have G9 := Lib.hid g9
    clear h9 g9
    refine hK.out _ _ (by assumption) (fun _ => ?_)
    clear hK K
    try simp only [Act.put]
    refine held_end (by kernel_rfl) ?_ _
    -- END
    go_wp2
    refine bodyPost_ret (results_C1 rfl _ outT C9.out rfl (by first | rfl | go_simp)) rfl ?_
    refine li_done (code := code) S2.out H0.out N2.out O2.out E2.out K2.out (fun hq => ?_) C2.out (Nat.le_refl _) G9.out ?_
    · have hq2 : code ≠ 0 ∨ ¬ loudC c := by
        apply Classical.byContradiction
        intro hh
        simp only [not_or, Classical.not_not] at hh
        exact hq ⟨hh.1, c, ys, HWW.out, hh.2⟩
      have hq3 := Q2.out hq2
      exact ⟨hq3.1, grown_trans' G1.out (grown_trans' (grown_drew (World.grownBy.refl w1 none)) hq3.2)⟩
    · unfold LineR
      rw [if_neg (by have := H80.out; omega), HWW.out]
      exact D2.out.mono (fun v l ho => ho.below (below_of_none (grown_trans' G1.out (grown_drew (World.grownBy.refl w1 none))))) (fun _ _ e => e)
end
end Go.Proofs.YtlkchajkhplapaaGreatDoor
