/- Write. -/
import Derived.Test.YtjonnamemmleiaaGreatDoorTru
namespace Go.Proofs.YtjonnamemmleiaaGreatDoor
open Go.RowKit Go.Maps Go.WideMaps

set_option maxRecDepth 10000 in
set_option maxHeartbeats 8000000 in
theorem write_no (w : World) (tb mb : Nat) (M : List (List UInt8 × Nd)) (hT : TS w tb mb M) (ht : ∃ n, M.lookup [47] = some n) (hM : M.length ≤ 1000000) (who s : ByteArray) (p : List UInt8) (hp : s.data.toList = p) (hs : p.length ≤ 100000) (A : Option Addr) (k cap : Nat) (m : Int) (hc : writeC M who p k m ≠ 0) :
    Calls Tryz.prog 25 #[.pointer (some ⟨tb, 0, none⟩), .string who, .string s, .slice A k cap, .int .i64 m] w fun e w' => e = .returned (.int .i64 (writeC M who p k m)) ∧ Below w.heap.size w w' := by
  have CA := come_any w tb mb M hT.tr who s p hp hs
  obtain ⟨c, hcc⟩ : ∃ c, c = (comeR M who p).2 := ⟨_, rfl⟩
  by_cases h0 : c ≠ 0
  · have hR : writeC M who p k m = c := by unfold writeC; rw [← hcc, if_pos h0]
    rw [comeR_no (by rw [← hcc]; exact h0), ← hcc] at CA
    have hcq : (c == 0) = false := beq_eq_false_iff_ne.2 h0
    have CC := Lib.hid CA
    rw [hR]
    clear CA hcc hT hp hs hR hc ht
    go_enter Tryz.func25, Tryz.ntmps25
    go_wp2_with (go_at_call 50; refine CC.out.mono ?_; rintro e w1 ⟨rfl, hb1⟩)
    go_ret
    exact ⟨rfl, hb1⟩
  have h0' : c = 0 := Classical.byContradiction h0
  have hce : (comeR M who p).2 = 0 := by rw [← hcc]; exact h0'
  rw [comeR_ok hce, hce] at CA
  by_cases h1 : 0 ≤ m ∧ m ≤ 63
  · by_cases hk : 1000 < k
    · have hR : writeC M who p k m = 23 := by unfold writeC; rw [hce, if_neg (by decide), if_neg (by simpa using h1), if_pos hk]
      have CC := Lib.hid CA
      have D1 := Lib.hid (decide_eq_true h1)
      have hki : (1000 : Int) < (k : Int) := by omega
      rw [hR]
      clear CA hcc hT hp hs hR h0 h0' hce h1 hc ht hk
      go_enter Tryz.func25, Tryz.ntmps25
      go_wp2_with (first
        | (go_at_call 50; refine CC.out.mono ?_; rintro e w1 ⟨rfl, hb1⟩)
        | (go_at_call 57; refine (isMode_any _ m).mono ?_; rintro e w2 ⟨rfl, rfl⟩; rw [D1.out]))
      go_ret
      exact ⟨rfl, hb1⟩
    have hki : ¬ (1000 : Int) < (k : Int) := by omega
    have hR0 : writeC M who p k m = match M.lookup p with
      | none => addC M who p
      | some n => if n.dir = true then 113 else if mayOk who 2 n.owner n.mode = false then 114 else 0 := by unfold writeC; rw [hce, if_neg (by decide), if_neg (by simpa using h1), if_neg hk]; cases M.lookup p <;> rfl
    cases hl : M.lookup p with
    | some n =>
      rw [hl] at hR0
      simp only at hR0
      rw [hl, ptrOf, vN] at CA
      have hin := lookup_in hl
      have hN := hT.tr.nodes _ _ hin
      have hlt := hN.1.lt
      have CC := Lib.hid CA
      have D1 := Lib.hid (decide_eq_true h1)
      have HN := Lib.hid hN
      have HL := Lib.hid hlt
      cases hd : n.dir with
      | true =>
        rw [if_pos hd] at hR0
        rw [hR0]
        have HD := Lib.hid hd
        clear CA hcc hT hp hs hR0 hl h0 h0' hce h1 hc ht hk hN hlt hin hd
        go_enter Tryz.func25, Tryz.ntmps25
        go_wp2_with (first
          | (go_at_call 50; refine CC.out.mono ?_; rintro e w1 ⟨rfl, hb1⟩; have HN1 := Lib.hid (HN.out.1.below hb1 HL.out); have HB1 := Lib.hid hb1; have k1 := HN1.out.at_ (i := 1) (v := .bool true) (by show some (Value.bool n.dir) = _; rw [HD.out]); clear hb1)
          | (go_at_call 57; refine (isMode_any _ m).mono ?_; rintro e w2 ⟨rfl, rfl⟩; rw [D1.out]))
        go_ret
        exact ⟨rfl, HB1.out⟩
      | false =>
        rw [if_neg (by rw [hd]; decide)] at hR0
        have hm : mayOk who 2 n.owner n.mode = false := by
          cases hm : mayOk who 2 n.owner n.mode with
          | false => rfl
          | true => rw [hm, if_neg (by decide)] at hR0; exact absurd hR0 hc
        rw [if_pos hm] at hR0
        rw [hR0]
        have HD := Lib.hid hd
        have HM := Lib.hid hm
        clear CA hcc hT hp hs hR0 hl h0 h0' hce h1 hc ht hk hN hlt hin hd hm
        go_enter Tryz.func25, Tryz.ntmps25
        go_wp2_with (first
          | (go_at_call 50; refine CC.out.mono ?_; rintro e w1 ⟨rfl, hb1⟩; have HN1 := Lib.hid (HN.out.1.below hb1 HL.out); have HB1 := Lib.hid hb1; have k1 := HN1.out.at_ (i := 1) (v := .bool false) (by show some (Value.bool n.dir) = _; rw [HD.out]); clear hb1)
          | (go_at_call 57; refine (isMode_any _ m).mono ?_; rintro e w2 ⟨rfl, rfl⟩; rw [D1.out])
          | (go_at_call 63; refine (may_any _ who 2 n.blk _ n.owner n.dir n.mode n.data HN1.out HN.out.2 (.inr (.inl rfl))).mono ?_; rintro e w3 ⟨rfl, rfl⟩; rw [HM.out]))
        go_ret
        exact ⟨rfl, HB1.out⟩
    | none =>
      rw [hl] at hR0
      simp only at hR0
      rw [hR0] at hc ⊢
      rw [hl, ptrOf] at CA
      obtain ⟨a, b, n, hab, hb, hpo, hn, -⟩ := parent_in hce ht hl
      obtain ⟨x, rfl⟩ : ∃ x : Nat, m = (x : Int) := ⟨m.toNat, by omega⟩
      have CC := Lib.hid CA
      have D1 := Lib.hid (decide_eq_true h1)
      have AD := Lib.hid (fun (W : World) (hT' : TS W tb mb M) => add_no W tb mb M hT' s who false x (.slice A k cap) p a b hp hab hb (show s.data.toList.length ≤ 1000000 by rw [hp]; omega) n hn hM hc)
      have HT := Lib.hid hT
      obtain ⟨cc, hcc2⟩ : ∃ cc, addC M who p = cc := ⟨_, rfl⟩
      rw [hcc2] at AD ⊢
      clear CA hcc hT hp hs hR0 hl h0 h0' hce h1 hc ht hk hab hb hpo hn hcc2
      go_enter Tryz.func25, Tryz.ntmps25
      go_wp2_with (first
        | (go_at_call 50; refine CC.out.mono ?_; rintro e w1 ⟨rfl, hb1⟩; have HB1 := Lib.hid hb1; clear hb1)
        | (go_at_call 57; refine (isMode_any _ (x : Int)).mono ?_; rintro e w2 ⟨rfl, rfl⟩; rw [D1.out])
        | (go_at_call 61; refine (AD.out _ (HT.out.below HB1.out)).mono ?_; rintro e w3 ⟨rfl, hb3⟩; have HB3 := Lib.hid (HB1.out.trans (hb3.mono HB1.out.size)); clear hb3))
      go_ret
      exact ⟨rfl, HB3.out⟩
  · have hR : writeC M who p k m = 1 := by unfold writeC; rw [hce, if_neg (by decide), if_pos (by simpa using h1)]
    have CC := Lib.hid CA
    have D1 := Lib.hid (decide_eq_false h1)
    rw [hR]
    clear CA hcc hT hp hs hR h0 h0' hce h1 hc ht
    go_enter Tryz.func25, Tryz.ntmps25
    go_wp2_with (first
      | (go_at_call 50; refine CC.out.mono ?_; rintro e w1 ⟨rfl, hb1⟩)
      | (go_at_call 57; refine (isMode_any _ m).mono ?_; rintro e w2 ⟨rfl, rfl⟩; rw [D1.out]))
    go_ret
    exact ⟨rfl, hb1⟩

theorem writeC_zero {M : List (List UInt8 × Nd)} {who : ByteArray} {p : List UInt8} {k : Nat} {m : Int} (hc : writeC M who p k m = 0) : (comeR M who p).2 = 0 ∧ (0 ≤ m ∧ m ≤ 63) ∧ k ≤ 1000 := by
  have hce : (comeR M who p).2 = 0 := by
    apply Classical.byContradiction
    intro h
    unfold writeC at hc
    rw [if_pos h] at hc
    exact h hc
  have h1 : 0 ≤ m ∧ m ≤ 63 := by
    apply Classical.byContradiction
    intro h
    unfold writeC at hc
    rw [hce, if_neg (by decide), if_pos h] at hc
    cases hc
  refine ⟨hce, h1, ?_⟩
  apply Classical.byContradiction
  intro h
  unfold writeC at hc
  rw [hce, if_neg (by decide), if_neg (by simpa using h1), if_pos (by omega)] at hc
  cases hc
set_option maxRecDepth 10000 in
set_option maxHeartbeats 8000000 in
theorem write_put (w : World) (tb mb : Nat) (M : List (List UInt8 × Nd)) (hT : TS w tb mb M) (ht : ∃ n, M.lookup [47] = some n) (who s : ByteArray) (hw : who.size ≤ 1000000) (p : List UInt8) (hp : s.data.toList = p) (hs : p.length ≤ 100000) (A : Option Addr) (l : List UInt8) (k cap : Nat) (hk : l.length = k) (hr : RB w w.heap.size A l cap) (m : Int) (hc : writeC M who p k m = 0) (hl : M.lookup p = none) :
    Calls Tryz.prog 25 #[.pointer (some ⟨tb, 0, none⟩), .string who, .string s, .slice A k cap, .int .i64 m] w fun e w' => e = .returned (.int .i64 0) ∧ Put w w' tb mb M p false who m.toNat l := by
  have CA := come_any w tb mb M hT.tr who s p hp hs
  obtain ⟨hce, h1, hk1⟩ := writeC_zero hc
  have hR : addC M who p = 0 := by
    unfold writeC at hc
    rw [hce, if_neg (by decide), if_neg (by simpa using h1), if_neg (by omega), hl] at hc
    exact hc
  rw [comeR_ok hce, hce, hl, ptrOf] at CA
  obtain ⟨a, b, n, hab, hb, hpo, hn, -⟩ := parent_in hce ht hl
  obtain ⟨x, rfl⟩ : ∃ x : Nat, m = (x : Int) := ⟨m.toNat, by omega⟩
  have hki : ¬ (1000 : Int) < (k : Int) := by omega
  have CC := Lib.hid CA
  have D1 := Lib.hid (decide_eq_true h1)
  have AD := Lib.hid (fun (W : World) (hT' : TS W tb mb M) (hb' : Below w.heap.size w W) => add_ok W tb mb M hT' s who false x A l cap k hk ((hr.below hb').more hb'.size) (by omega) p a b hp hab hb (show s.data.toList.length ≤ 1000000 by rw [hp]; omega) hw n hn hl (by omega) hR)
  have HT := Lib.hid hT
  clear CA hT hp hs hR hl hce h1 hc ht hab hb hpo hn hk1 hr hk
  go_enter Tryz.func25, Tryz.ntmps25
  go_wp2_with (first
    | (go_at_call 50; refine CC.out.mono ?_; rintro e w1 ⟨rfl, hb1⟩; have HB1 := Lib.hid hb1; clear hb1)
    | (go_at_call 57; refine (isMode_any _ (x : Int)).mono ?_; rintro e w2 ⟨rfl, rfl⟩; rw [D1.out])
    | (go_at_call 61; refine (AD.out _ (HT.out.below HB1.out) HB1.out).mono ?_; rintro e w3 ⟨rfl, h3⟩; have H3 := Lib.hid h3; clear h3))
  go_ret
  exact ⟨rfl, H3.out.back HB1.out⟩
/-- What came of data that were set. -/
def Set (w w' : World) (tb mb : Nat) (M : List (List UInt8 × Nd)) (p : List UInt8) (n : Nd) (l : List UInt8) : Prop :=
  ∃ v, OwnB w' w.heap.size 5 v l ∧ TS w' tb mb (turn p (fun x => { x with data := v }) M) ∧ w.grownBy w' (some n.blk)
set_option maxRecDepth 10000 in
set_option maxHeartbeats 8000000 in
theorem write_set (w : World) (tb mb : Nat) (M : List (List UInt8 × Nd)) (hT : TS w tb mb M) (who s : ByteArray) (p : List UInt8) (hp : s.data.toList = p) (hs : p.length ≤ 100000) (A : Option Addr) (l : List UInt8) (k cap : Nat) (hk : l.length = k) (hr : RB w w.heap.size A l cap) (m : Int) (hc : writeC M who p k m = 0) (n : Nd) (hl : M.lookup p = some n) :
    Calls Tryz.prog 25 #[.pointer (some ⟨tb, 0, none⟩), .string who, .string s, .slice A k cap, .int .i64 m] w fun e w' => e = .returned (.int .i64 0) ∧ Set w w' tb mb M p n l := by
  have CA := come_any w tb mb M hT.tr who s p hp hs
  obtain ⟨hce, h1, hk1⟩ := writeC_zero hc
  have hR : n.dir = false ∧ mayOk who 2 n.owner n.mode = true := by
    unfold writeC at hc
    rw [hce, if_neg (by decide), if_neg (by simpa using h1), if_neg (by omega), hl] at hc
    simp only at hc
    by_cases h : n.dir = true
    · rw [if_pos h] at hc; cases hc
    · rw [if_neg h] at hc
      by_cases h' : mayOk who 2 n.owner n.mode = false
      · rw [if_pos h'] at hc; cases hc
      · exact ⟨by cases hd : n.dir <;> simp_all, by cases hm : mayOk who 2 n.owner n.mode <;> simp_all⟩
  obtain ⟨hd, hm⟩ := hR
  rw [comeR_ok hce, hce, hl, ptrOf, vN] at CA
  have hin := lookup_in hl
  have hN := hT.tr.nodes _ _ hin
  have hki : ¬ (1000 : Int) < (k : Int) := by omega
  have CC := Lib.hid CA
  have D1 := Lib.hid (decide_eq_true h1)
  have HN := Lib.hid hN
  have HL := Lib.hid hN.1.lt
  have HD := Lib.hid hd
  have HM := Lib.hid hm
  have HT := Lib.hid hT
  have HIN := Lib.hid hin
  have HR := Lib.hid hr
  have HK := Lib.hid hk
  have HK1 := Lib.hid hk1
  clear CA hT hp hs hl hce h1 hc hk1 hr hk hd hm hN hin
  go_enter Tryz.func25, Tryz.ntmps25
  go_wp2_with (first
    | (go_at_call 50; refine CC.out.mono ?_; rintro e w1 ⟨rfl, hb1⟩; have HN1 := Lib.hid (HN.out.1.below hb1 HL.out); have HB1 := Lib.hid hb1; have k1 := HN1.out.at_ (i := 1) (v := .bool false) (by show some (Value.bool n.dir) = _; rw [HD.out]); clear hb1)
    | (go_at_call 57; refine (isMode_any _ m).mono ?_; rintro e w2 ⟨rfl, rfl⟩; rw [D1.out])
    | (go_at_call 63; refine (may_any _ who 2 n.blk _ n.owner n.dir n.mode n.data HN1.out HN.out.2 (.inr (.inl rfl))).mono ?_; rintro e w3 ⟨rfl, rfl⟩; rw [HM.out])
    | (go_at_call 64; refine (bclone_any A l cap k _ HK.out ((HR.out.below HB1.out).more HB1.out.size) (by have := HK1.out; omega)).mono ?_; rintro e w4 ⟨A', c', rfl, ho4, hb4⟩; have HO4 := Lib.hid ho4; have HB4 := Lib.hid (HB1.out.trans (hb4.mono HB1.out.size)); have HN4 := Lib.hid (HN1.out.below hb4 HN1.out.lt); have k4 : w4.cell? ⟨n.blk, 4, none⟩ = some n.data := HN4.out.at_ rfl; have f4 := HN4.out.free 4; clear ho4 hb4))
  go_ret
  have T4 := HT.out.below HB4.out
  refine ⟨rfl, .slice A' k c', ?_, T4.data HIN.out _ (OwnB.base_ HO4.out (Nat.zero_le _)) (by rw [HK.out]; have := HK1.out; omega) (fun q n' z hq hz e => ?_), (grownC_of_below HB4.out (Nat.le_refl _)).trans (grownC_set _ _ _ _)⟩
  · exact World.ownsRow.kept (row := some n.blk) (OwnB.base_ HO4.out HB1.out.size) (grownC_set _ _ _ _) (.inr (HO4.out.ne_cells HN4.out (by decide)))
  · obtain ⟨l', hl', -⟩ := HT.out.row q n' hq
    have h1 := (hl'.lt z hz).2
    have h2 := (HO4.out.lt z e).1
    have h3 := HB1.out.size
    omega
end Go.Proofs.YtjonnamemmleiaaGreatDoor
