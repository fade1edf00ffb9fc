/- Write. -/
import Derived.Test.YtlkchajkhplapaaGreatDoorTru
namespace Go.Proofs.YtlkchajkhplapaaGreatDoor
open Go.RowKit Go.Maps Go.WideMaps

set_option maxRecDepth 10000 in
set_option maxHeartbeats 8000000 in
theorem write_no (w : World) (tb mb : Nat) (M : List (List UInt8 × Nd)) (hT : TS w tb mb M) (ht : ∃ n, M.lookup [47] = some n) (hM : M.length ≤ 1000000) (who s : ByteArray) (p : List UInt8) (hp : s.data.toList = p) (hs : p.length ≤ 100000) (A : Option Addr) (k cap : Nat) (m : Int) (hc : writeC M who p k m ≠ 0) :
    Calls Tryz.prog 25 #[.pointer (some ⟨tb, 0, none⟩), .string who, .string s, .slice A k cap, .int .i64 m] w fun e w' => e = .returned (.int .i64 (writeC M who p k m)) ∧ Below w.heap.size w w' := by
  have CA := come_any w tb mb M hT.tr who s p hp hs
  obtain ⟨c, hcc⟩ : ∃ c, c = (comeR M who p).2 := ⟨_, rfl⟩
  by_cases h0 : c ≠ 0
  · have hR : writeC M who p k m = c := by unfold writeC; rw [← hcc, if_pos h0]
    rw [comeR_no (by rw [← hcc]; exact h0), ← hcc] at CA
    have hcq : (c == 0) = false := beq_eq_false_iff_ne.2 h0
    have CC := Lib.hid CA
    rw [hR]
    clear CA hcc hT hp hs hR hc ht
    go_enter Tryz.func25, Tryz.ntmps25
    go_wp2_with (go_at_call 50; refine CC.out.mono ?_; rintro e w1 ⟨rfl, hb1⟩)
    go_ret
    exact ⟨rfl, hb1⟩
  have h0' : c = 0 := Classical.byContradiction h0
  have hce : (comeR M who p).2 = 0 := by rw [← hcc]; exact h0'
  rw [comeR_ok hce, hce] at CA
  by_cases h1 : 0 ≤ m ∧ m ≤ 63
  · by_cases hk : 1000 < k
    · have hR : writeC M who p k m = 23 := by unfold writeC; rw [hce, if_neg (by decide), if_neg (by simpa using h1), if_pos hk]
      have CC := Lib.hid CA
      have D1 := Lib.hid (decide_eq_true h1)
      have hki : (1000 : Int) < (k : Int) := by omega
      rw [hR]
      clear CA hcc hT hp hs hR h0 h0' hce h1 hc ht hk
      go_enter Tryz.func25, Tryz.ntmps25
      go_wp2_with (first
        | (go_at_call 50; refine CC.out.mono ?_; rintro e w1 ⟨rfl, hb1⟩)
        | (go_at_call 57; refine (isMode_any _ m).mono ?_; rintro e w2 ⟨rfl, rfl⟩; rw [D1.out]))
      go_ret
      exact ⟨rfl, hb1⟩
    have hki : ¬ (1000 : Int) < (k : Int) := by omega
    have hR0 : writeC M who p k m = match M.lookup p with
      | none => addC M who p
      | some n => if n.dir = true then 113 else if mayOk who 2 n.owner n.mode = false then 114 else 0 := by unfold writeC; rw [hce, if_neg (by decide), if_neg (by simpa using h1), if_neg hk]; cases M.lookup p <;> rfl
    cases hl : M.lookup p with
    | some n =>
      rw [hl] at hR0
      simp only at hR0
      rw [hl, ptrOf, vN] at CA
      have hin := lookup_in hl
      have hN := hT.tr.nodes _ _ hin
      have hlt := hN.1.lt
      have CC := Lib.hid CA
      have D1 := Lib.hid (decide_eq_true h1)
      have HN := Lib.hid hN
      have HL := Lib.hid hlt
      cases hd : n.dir with
      | true =>
        rw [if_pos hd] at hR0
        rw [hR0]
        have HD := Lib.hid hd
        clear CA hcc hT hp hs hR0 hl h0 h0' hce h1 hc ht hk hN hlt hin hd
        go_enter Tryz.func25, Tryz.ntmps25
        go_wp2_with (first
          | (go_at_call 50; refine CC.out.mono ?_; rintro e w1 ⟨rfl, hb1⟩; have HN1 := Lib.hid (HN.out.1.below hb1 HL.out); have HB1 := Lib.hid hb1; have k1 := HN1.out.at_ (i := 1) (v := .bool true) (by show some (Value.bool n.dir) = _; rw [HD.out]); clear hb1)
          | (go_at_call 57; refine (isMode_any _ m).mono ?_; rintro e w2 ⟨rfl, rfl⟩; rw [D1.out]))
        go_ret
        exact ⟨rfl, HB1.out⟩
      | false =>
        rw [if_neg (by rw [hd]; decide)] at hR0
        have hm : mayOk who 2 n.owner n.mode = false := by
          cases hm : mayOk who 2 n.owner n.mode with
          | false => rfl
          | true => rw [hm, if_neg (by decide)] at hR0; exact absurd hR0 hc
        rw [if_pos hm] at hR0
        rw [hR0]
        have HD := Lib.hid hd
        have HM := Lib.hid hm
        clear CA hcc hT hp hs hR0 hl h0 h0' hce h1 hc ht hk hN hlt hin hd hm
        go_enter Tryz.func25, Tryz.ntmps25
        go_wp2_with (first
          | (go_at_call 50; refine CC.out.mono ?_; rintro e w1 ⟨rfl, hb1⟩; have HN1 := Lib.hid (HN.out.1.below hb1 HL.out); have HB1 := Lib.hid hb1; have k1 := HN1.out.at_ (i := 1) (v := .bool false) (by show some (Value.bool n.dir) = _; rw [HD.out]); clear hb1)
          | (go_at_call 57; refine (isMode_any _ m).mono ?_; rintro e w2 ⟨rfl, rfl⟩; rw [D1.out])
          | (go_at_call 63; refine (may_any _ who 2 n.blk _ n.owner n.dir n.mode n.data HN1.out HN.out.2 (.inr (.inl rfl))).mono ?_; rintro e w3 ⟨rfl, rfl⟩; rw [HM.out]))
        go_ret
        exact ⟨rfl, HB1.out⟩
    | none =>
      rw [hl] at hR0
      simp only at hR0
      rw [hR0] at hc ⊢
      rw [hl, ptrOf] at CA
      obtain ⟨a, b, n, hab, hb, hpo, hn, -⟩ := parent_in hce ht hl
      obtain ⟨x, rfl⟩ : ∃ x : Nat, m = (x : Int) := ⟨m.toNat, by omega⟩
      have CC := Lib.hid CA
      have D1 := Lib.hid (decide_eq_true h1)
      have AD := Lib.hid (fun (W : World) (hT' : TS W tb mb M) => add_no W tb mb M hT' s who false x (.slice A k cap) p a b hp hab hb (show s.data.toList.length ≤ 1000000 by rw [hp]; omega) n hn hM hc)
      have HT := Lib.hid hT
      obtain ⟨cc, hcc2⟩ : ∃ cc, addC M who p = cc := ⟨_, rfl⟩
      rw [hcc2] at AD ⊢
      clear CA hcc hT hp hs hR0 hl h0 h0' hce h1 hc ht hk hab hb hpo hn hcc2
      go_enter Tryz.func25, Tryz.ntmps25
      go_wp2_with (first
        | (go_at_call 50; refine CC.out.mono ?_; rintro e w1 ⟨rfl, hb1⟩; have HB1 := Lib.hid hb1; clear hb1)
        | (go_at_call 57; refine (isMode_any _ (x : Int)).mono ?_; rintro e w2 ⟨rfl, rfl⟩; rw [D1.out])
        | (go_at_call 61; refine (AD.out _ (HT.out.below HB1.out)).mono ?_; rintro e w3 ⟨rfl, hb3⟩; have HB3 := Lib.hid (HB1.out.trans (hb3.mono HB1.out.size)); clear hb3))
      go_ret
      exact ⟨rfl, HB3.out⟩
  · have hR : writeC M who p k m = 1 := by unfold writeC; rw [hce, if_neg (by decide), if_pos (by simpa using h1)]
    have CC := Lib.hid CA
    have D1 := Lib.hid (decide_eq_false h1)
    rw [hR]
    clear CA hcc hT hp hs hR h0 h0' hce h1 hc ht
    go_enter Tryz.func25, Tryz.ntmps25
    go_wp2_with (first
      | (go_at_call 50; refine CC.out.mono ?_; rintro e w1 ⟨rfl, hb1⟩)
      | (go_at_call 57; refine (isMode_any _ m).mono ?_; rintro e w2 ⟨rfl, rfl⟩; rw [D1.out]))
    go_ret
    exact ⟨rfl, hb1⟩

theorem writeC_zero {M : List (List UInt8 × Nd)} {who : ByteArray} {p : List UInt8} {k : Nat} {m : Int} (hc : writeC M who p k m = 0) : (comeR M who p).2 = 0 ∧ (0 ≤ m ∧ m ≤ 63) ∧ k ≤ 1000 := by
  have hce : (comeR M who p).2 = 0 := by
    apply Classical.byContradiction
    intro h
    unfold writeC at hc
    rw [if_pos h] at hc
    exact h hc
  have h1 : 0 ≤ m ∧ m ≤ 63 := by
    apply Classical.byContradiction
    intro h
    unfold writeC at hc
    rw [hce, if_neg (by decide), if_pos h] at hc
    cases hc
  refine ⟨hce, h1, ?_⟩
  apply Classical.byContradiction
  intro h
  unfold writeC at hc
  rw [hce, if_neg (by decide), if_neg (by simpa using h1), if_pos (by omega)] at hc
  cases hc
set_option maxRecDepth 10000 in
set_option maxHeartbeats 8000000 in
theorem write_put (w : World) (tb mb : Nat) (M : List (List UInt8 × Nd)) (hT : TS w tb mb M) (ht : ∃ n, M.lookup [47] = some n) (who s : ByteArray) (hw : who.size ≤ 1000000) (p : List UInt8) (hp : s.data.toList = p) (hs : p.length ≤ 100000) (A : Option Addr) (l : List UInt8) (k cap : Nat) (hk : l.length = k) (hr : RB w w.heap.size A l cap) (m : Int) (hc : writeC M who p k m = 0) (hl : M.lookup p = none) :
    Calls Tryz.prog 25 #[.pointer (some ⟨tb, 0, none⟩), .string who, .string s, .slice A k cap, .int .i64 m] w fun e w' => e = .returned (.int .i64 0) ∧ Put w w' tb mb M p false who m.toNat l := by
  have CA := come_any w tb mb M hT.tr who s p hp hs
  obtain ⟨hce, h1, hk1⟩ := writeC_zero hc
  have hR : addC M who p = 0 := by
    unfold writeC at hc
    rw [hce, if_neg (by decide), if_neg (by simpa using h1), if_neg (by omega), hl] at hc
    exact hc
  rw [comeR_ok hce, hce, hl, ptrOf] at CA
  obtain ⟨a, b, n, hab, hb, hpo, hn, -⟩ := parent_in hce ht hl
  obtain ⟨x, rfl⟩ : ∃ x : Nat, m = (x : Int) := ⟨m.toNat, by omega⟩
  have hki : ¬ (1000 : Int) < (k : Int) := by omega
  have CC := Lib.hid CA
  have D1 := Lib.hid (decide_eq_true h1)
  have AD := Lib.hid (fun (W : World) (hT' : TS W tb mb M) (hb' : Below w.heap.size w W) => add_ok W tb mb M hT' s who false x A l cap k hk ((hr.below hb').more hb'.size) (by omega) p a b hp hab hb (show s.data.toList.length ≤ 1000000 by rw [hp]; omega) hw n hn hl (by omega) hR)
  have HT := Lib.hid hT
  clear CA hT hp hs hR hl hce h1 hc ht hab hb hpo hn hk1 hr hk
  go_enter Tryz.func25, Tryz.ntmps25
  go_wp2_with (first
    | (go_at_call 50; refine CC.out.mono ?_; rintro e w1 ⟨rfl, hb1⟩; have HB1 := Lib.hid hb1; clear hb1)
    | (go_at_call 57; refine (isMode_any _ (x : Int)).mono ?_; rintro e w2 ⟨rfl, rfl⟩; rw [D1.out])
    | (go_at_call 61; refine (AD.out _ (HT.out.below HB1.out) HB1.out).mono ?_; rintro e w3 ⟨rfl, h3⟩; have H3 := Lib.hid h3; clear h3))
  go_ret
  exact ⟨rfl, H3.out.back HB1.out⟩
/-- What came of data that were set. -/
def Set (w w' : World) (tb mb : Nat) (M : List (List UInt8 × Nd)) (p : List UInt8) (n : Nd) (l : List UInt8) : Prop :=
  ∃ v, OwnB w' w.heap.size 5 v l ∧ TS w' tb mb (turn p (fun x => { x with data := v }) M) ∧ w.grownBy w' (some n.blk)
set_option maxRecDepth 10000 in
set_option maxHeartbeats 8000000 in
theorem write_set (w : World) (tb mb : Nat) (M : List (List UInt8 × Nd)) (hT : TS w tb mb M) (who s : ByteArray) (p : List UInt8) (hp : s.data.toList = p) (hs : p.length ≤ 100000) (A : Option Addr) (l : List UInt8) (k cap : Nat) (hk : l.length = k) (hr : RB w w.heap.size A l cap) (m : Int) (hc : writeC M who p k m = 0) (n : Nd) (hl : M.lookup p = some n) :
    Calls Tryz.prog 25 #[.pointer (some ⟨tb, 0, none⟩), .string who, .string s, .slice A k cap, .int .i64 m] w fun e w' => e = .returned (.int .i64 0) ∧ Set w w' tb mb M p n l := by
  have CA := come_any w tb mb M hT.tr who s p hp hs
  obtain ⟨hce, h1, hk1⟩ := writeC_zero hc
  have hR : n.dir = false ∧ mayOk who 2 n.owner n.mode = true := by
    unfold writeC at hc
    rw [hce, if_neg (by decide), if_neg (by simpa using h1), if_neg (by omega), hl] at hc
    simp only at hc
    by_cases h : n.dir = true
    · rw [if_pos h] at hc; cases hc
    · rw [if_neg h] at hc
      by_cases h' : mayOk who 2 n.owner n.mode = false
      · rw [if_pos h'] at hc; cases hc
      · exact ⟨by cases hd : n.dir <;> simp_all, by cases hm : mayOk who 2 n.owner n.mode <;> simp_all⟩
  obtain ⟨hd, hm⟩ := hR
  rw [comeR_ok hce, hce, hl, ptrOf, vN] at CA
  have hin := lookup_in hl
  have hN := hT.tr.nodes _ _ hin
  have hki : ¬ (1000 : Int) < (k : Int) := by omega
  have CC := Lib.hid CA
  have D1 := Lib.hid (decide_eq_true h1)
  have HN := Lib.hid hN
  have HL := Lib.hid hN.1.lt
  have HD := Lib.hid hd
  have HM := Lib.hid hm
  have HT := Lib.hid hT
  have HIN := Lib.hid hin
  have HR := Lib.hid hr
  have HK := Lib.hid hk
  have HK1 := Lib.hid hk1
  clear CA hT hp hs hl hce h1 hc hk1 hr hk hd hm hN hin
  go_enter Tryz.func25, Tryz.ntmps25
  go_wp2_with (first
    | (go_at_call 50; refine CC.out.mono ?_; rintro e w1 ⟨rfl, hb1⟩; have HN1 := Lib.hid (HN.out.1.below hb1 HL.out); have HB1 := Lib.hid hb1; have k1 := HN1.out.at_ (i := 1) (v := .bool false) (by show some (Value.bool n.dir) = _; rw [HD.out]); clear hb1)
    | (go_at_call 57; refine (isMode_any _ m).mono ?_; rintro e w2 ⟨rfl, rfl⟩; rw [D1.out])
    | (go_at_call 63; refine (may_any _ who 2 n.blk _ n.owner n.dir n.mode n.data HN1.out HN.out.2 (.inr (.inl rfl))).mono ?_; rintro e w3 ⟨rfl, rfl⟩; rw [HM.out])
    | (go_at_call 64; refine (bclone_any A l cap k _ HK.out ((HR.out.below HB1.out).more HB1.out.size) (by have := HK1.out; omega)).mono ?_; rintro e w4 ⟨A', c', rfl, ho4, hb4⟩; have HO4 := Lib.hid ho4; have HB4 := Lib.hid (HB1.out.trans (hb4.mono HB1.out.size)); have HN4 := Lib.hid (HN1.out.below hb4 HN1.out.lt); have k4 : w4.cell? ⟨n.blk, 4, none⟩ = some n.data := HN4.out.at_ rfl; have f4 := HN4.out.free 4; clear ho4 hb4))
  go_ret
  have T4 := HT.out.below HB4.out
  refine ⟨rfl, .slice A' k c', ?_, T4.data HIN.out _ (OwnB.base_ HO4.out (Nat.zero_le _)) (by rw [HK.out]; have := HK1.out; omega) (fun q n' z hq hz e => ?_), (grownC_of_below HB4.out (Nat.le_refl _)).trans (grownC_set _ _ _ _)⟩
  · exact World.ownsRow.kept (row := some n.blk) (OwnB.base_ HO4.out HB1.out.size) (grownC_set _ _ _ _) (.inr (HO4.out.ne_cells HN4.out (by decide)))
  · obtain ⟨l', hl', -⟩ := HT.out.row q n' hq
    have h1 := (hl'.lt z hz).2
    have h2 := (HO4.out.lt z e).1
    have h3 := HB1.out.size
    omega
end Go.Proofs.YtlkchajkhplapaaGreatDoor
namespace Go.Proofs.YtlkchajkhplapaaGreatDoor
open Go.RowKit Go.Maps Go.WideMaps

/-- No node but the top has the directory as its parent. -/
def NoKid (M : List (List UInt8 × Nd)) (d : List UInt8) : Prop := ∀ p n, (p, n) ∈ M → p ≠ [47] → p.length ≤ 1000000 ∧ ∃ a b, p = a ++ 47 :: b ∧ (47 : UInt8) ∉ b ∧ p.take (max a.length 1) ≠ d
theorem below_grown {B r : Nat} {w w' : World} (h : w.grownBy w' (some r)) (hr : B ≤ r) (hB : B ≤ w.heap.size) : Below B w w' :=
  ⟨h.os, h.tape, h.output, h.size, fun i hi => h.block i (by omega) (by simp; omega)⟩
theorem kid_parent {M : List (List UInt8 × Nd)} (hF : FineM Tryz.prog 9 kS M) {D : DataW Value} (hD : D = datM Tryz.prog 9 kS vN M) {d : ByteArray} (hk : NoKid M d.data.toList) (x : ByteArray) (kl : Lit)
    (hkx : keyOf Tryz.prog 9 (.string x) = some kl) (hh : Maps.has D kl = true) (hne : x ≠ ⟨#[47]⟩) :
    ∃ r : ByteArray, (∀ W, Calls Tryz.prog 84 #[.string x] W fun e w' => e = .returned (.string r) ∧ w' = W) ∧ (r.toList == d.toList) = false := by
  have hxe := bytes_of (rfl : x.data.toList = x.data.toList)
  have hok : OkK Tryz.prog 9 kS x.data.toList := OkK.of (l := kl) (by show keyOf _ _ (.string ⟨x.data.toList.toArray⟩) = _; rw [← hxe]; exact hkx)
  have hl : litOf Tryz.prog 9 kS x.data.toList = kl := by
    have h2 : keyOf Tryz.prog 9 (kS x.data.toList) = some kl := by show keyOf _ _ (.string ⟨x.data.toList.toArray⟩) = _; rw [← hxe]; exact hkx
    exact Option.some.inj (hok.symm.trans h2)
  have hin : x.data.toList ∈ keysM M := by
    have h3 := has_datM (vv := vN) keyedS kS_inj hF hok
    rw [hl, ← hD, hh] at h3
    simpa using h3.symm
  obtain ⟨nd, hin⟩ := mem_keysM.1 hin
  obtain ⟨hlen, a, b, hab, hb, hpd⟩ := hk _ _ hin (fun e => hne (bytes_of e))
  refine ⟨⟨(x.data.toList.take (max a.length 1)).toArray⟩, fun W => (parent_any x a b hab hb hlen W).mono ?_, str_ne fun e => hpd (by rw [← e])⟩
  rintro e w' ⟨r, rfl, hr, rfl⟩
  rw [← hab] at hr
  exact ⟨by rw [bytes_of hr], rfl⟩

set_option maxRecDepth 10000 in
set_option maxHeartbeats 2000000 in
theorem names_none (w : World) (tb mb : Nat) (M : List (List UInt8 × Nd)) (hT : TR w tb mb M) (d : ByteArray) (hk : NoKid M d.data.toList) :
    Calls Tryz.prog 52 #[.pointer (some ⟨tb, 0, none⟩), .string d] w fun e w' => e = .returned (.slice none 0 0) ∧ Below w.heap.size w w' := by
  have kt := (cell_box hT.top).1
  have hown := hT.map.2
  have hlt : mb < w.heap.size := hT.map.lt
  have hF := hT.map.1
  obtain ⟨D, hD⟩ : ∃ D, D = datM Tryz.prog 9 kS vN M := ⟨_, rfl⟩
  rw [← hD] at hown
  have KP := Lib.hid (fun x kl => kid_parent hF hD hk x kl)
  obtain ⟨n, hn⟩ : ∃ n, n = M.length := ⟨_, rfl⟩
  rw [← hn] at hown
  clear hT hk hF hD hn
  go_enter Tryz.func52, Tryz.ntmps52
  go_wp2_with (first
    | (at_range; refine wpList_range_own _ rfl _ 94 rfl 9 _ keyedS Tryz.underlying94 RV mb n _ rfl hown ?_; intro w0 hrg0 hg0 hs0)
    | go_in)
  go_frame
  go_loopw [5] (fun v wr => v = .slice none 0 0 ∧ ∃ (left : Lit → Bool) (cnt : Nat), wr.ranges Tryz.prog 9 RV mb w.heap.size n D left cnt ∧ Hid (∀ kl, left kl = true → Maps.has D kl = true) ∧ Hid (Below w.heap.size w wr))
    (fun _ wr => wr.rangeLeft mb w.heap.size)
  case atStart => exact ⟨rfl, _, _, hrg0, fun kl h => h, below_of_none hg0⟩
  case round =>
    obtain ⟨rfl, left, cnt, hrg, HS, HB⟩ := hrel
    go_wp2_with (first
      | (at_next; refine wpList_next_ranges _ rfl _ rfl 9 keyedS RV Value.string id (fun key kl h => by obtain ⟨s, rfl, -, -⟩ := string_of_keyOf Tryz.underlying9 h; exact ⟨s, rfl⟩) (fun v y _ => ⟨v, rfl⟩) mb w.heap.size n _ _ _ rfl hrg ?_ ?_)
      | go_in)
    · intro hc0 hl0
      clear hrg
      go_wp2_with (go_at_call 86; refine (sh_slices_Sort_string_none none 0 _).mono ?_; rintro e w' ⟨rfl, rfl⟩)
      go_ret
      exact ⟨rfl, HB.out⟩
    · intro x c kl y ps w1 cnt1 hkx hlx hy hat hrg1 hlt1 hg1 hs1 hen
      have hm0 : wr.rangeLeft mb w.heap.size = cnt := hrg.left_eq
      have hm1 : w1.rangeLeft mb w.heap.size = cnt1 := hrg1.left_eq
      have HB1 := Lib.hid (HB.out.trans (below_grown hg1 (Nat.le_refl _) HB.out.size))
      have HR1 := Lib.hid hrg1
      have HX := Lib.hid (HS.out _ hlx)
      have HS1 : Hid (∀ kl', (left kl' && !kl'.sameKey kl) = true → Maps.has D kl' = true) := fun kl' h => HS.out _ (by simp at h; exact h.1)
      by_cases hx : x = ⟨#[47]⟩
      · subst hx
        clear hrg hrg1 HB hat hy hlx HS HX hkx
        go_wp2
        exact ⟨⟨rfl, _, _, HR1.out, HS1, HB1.out⟩, by rw [hm1, hm0]; exact hlt1⟩
      · have n1 := str_ne hx
        have n2 : (x.toList == [47]) = false := by rw [show ([47] : List UInt8) = (⟨#[47]⟩ : ByteArray).toList from by rw [ByteArray.toList_eq]]; exact n1
        obtain ⟨r, PA, hrd⟩ := KP.out x kl hkx HX.out hx
        have PH := Lib.hid PA
        clear hrg hrg1 HB hat hy hlx HS HX hkx hx PA
        go_wp2_with (go_at_call 84; refine (PH.out _).mono ?_; rintro e w' ⟨rfl, rfl⟩)
        exact ⟨⟨rfl, _, _, HR1.out, HS1, HB1.out⟩, by rw [hm1, hm0]; exact hlt1⟩
end Go.Proofs.YtlkchajkhplapaaGreatDoor
namespace Go.Proofs.YtlkchajkhplapaaGreatDoor
open Go.RowKit Go.Maps Go.WideMaps

/-- What Remove answers, as long as it doesn't look for names. -/
def removeC (M : List (List UInt8 × Nd)) (who : ByteArray) (p : List UInt8) : Int :=
  if (comeR M who p).2 ≠ 0 then (comeR M who p).2 else if p = [47] then 1 else
  match M.lookup p, M.lookup (parOf p) with
  | none, _ => 110
  | some _, none => 114
  | some _, some d => if mayOk who 2 d.owner d.mode = false then 114 else 0
theorem parent_in' {M : List (List UInt8 × Nd)} {who : ByteArray} {p : List UInt8} (h : (comeR M who p).2 = 0) (hne : p ≠ [47]) :
    ∃ a b n, p = a ++ 47 :: b ∧ (47 : UInt8) ∉ b ∧ parOf p = p.take (max a.length 1) ∧ M.lookup (parOf p) = some n ∧ n.dir = true := by
  obtain ⟨h1, h2⟩ := come_path h
  obtain ⟨a, b, hab, hb, hin⟩ := parent_on h1 hne
  obtain ⟨n, hl, hd⟩ := comeE_all h2 _ hin
  rw [← parOf_eq hab hb] at hin hl
  exact ⟨a, b, n, hab, hb, parOf_eq hab hb, hl, hd⟩
theorem mem_without {M : List (List UInt8 × Nd)} {p q : List UInt8} {n : Nd} (h : (q, n) ∈ withoutM M p) : (q, n) ∈ M ∧ q ≠ p := by
  obtain ⟨h1, h2⟩ := List.mem_filter.1 h
  exact ⟨h1, by simpa using h2⟩
/-- A node goes. -/
theorem TS.del {w w' : World} {tb mb : Nat} {M : List (List UInt8 × Nd)} (h : TS w tb mb M) {p : List UInt8} (hm : MT Tryz.prog 9 kS vN w' mb (withoutM M p)) (hg : w.grownBy w' (some mb)) : TS w' tb mb (withoutM M p) := by
  obtain ⟨es, cl, hmb⟩ := h.tr.map.block
  have htb : CB w tb 96 [.map (some mb)] := h.tr.top
  refine ⟨⟨htb.grown hg (htb.ne_map hmb), hm, fun q n hq => ?_⟩, fun q n q' n' hq hq' he => h.sep _ _ _ _ (mem_without hq).1 (mem_without hq').1 he, fun q n hq => ?_, fun q n q' n' k hq hq' hk hk' => h.rsep _ _ _ _ k (mem_without hq).1 (mem_without hq').1 hk hk'⟩
  · have hq := (mem_without hq).1
    exact ⟨(h.tr.nodes q n hq).1.grown hg ((h.tr.nodes q n hq).1.ne_map hmb), (h.tr.nodes q n hq).2⟩
  · obtain ⟨l', h1, h2⟩ := h.row q n (mem_without hq).1
    exact ⟨l', World.ownsRow.kept h1 hg (.inr (h1.ne_map hmb)), h2⟩

set_option maxRecDepth 10000 in
set_option maxHeartbeats 4000000 in
theorem remove_no (w : World) (tb mb : Nat) (M : List (List UInt8 × Nd)) (hT : TS w tb mb M) (who s : ByteArray) (p : List UInt8) (hp : s.data.toList = p) (hs : p.length ≤ 100000) (hc : removeC M who p ≠ 0) :
    Calls Tryz.prog 17 #[.pointer (some ⟨tb, 0, none⟩), .string who, .string s] w fun e w' => e = .returned (.int .i64 (removeC M who p)) ∧ Below w.heap.size w w' := by
  have CA := come_any w tb mb M hT.tr who s p hp hs
  obtain ⟨c, hcc⟩ : ∃ c, c = (comeR M who p).2 := ⟨_, rfl⟩
  by_cases h0 : c ≠ 0
  · have hR : removeC M who p = c := by unfold removeC; rw [← hcc, if_pos h0]
    rw [comeR_no (by rw [← hcc]; exact h0), ← hcc] at CA
    have hcq : (c == 0) = false := beq_eq_false_iff_ne.2 h0
    have CC := Lib.hid CA
    rw [hR]
    clear CA hcc hT hp hs hR hc
    go_enter Tryz.func17, Tryz.ntmps17
    go_wp2_with (go_at_call 50; refine CC.out.mono ?_; rintro e w1 ⟨rfl, hb1⟩)
    go_ret
    exact ⟨rfl, hb1⟩
  have h0' : c = 0 := Classical.byContradiction h0
  have hce : (comeR M who p).2 = 0 := by rw [← hcc]; exact h0'
  rw [comeR_ok hce, hce] at CA
  by_cases h1 : p = [47]
  · have hR : removeC M who p = 1 := by unfold removeC; rw [hce, if_neg (by decide), if_pos h1]
    have hse : s = ⟨#[47]⟩ := by rw [bytes_of hp, h1]
    rw [hR]
    subst hse
    have CC := Lib.hid CA
    clear CA hcc hT hp hs hR h0 h0' hce h1 hc
    go_enter Tryz.func17, Tryz.ntmps17
    go_wp2_with (go_at_call 50; refine CC.out.mono ?_; rintro e w1 ⟨rfl, hb1⟩)
    go_ret
    exact ⟨rfl, hb1⟩
  have hsn : s ≠ ⟨#[47]⟩ := fun e => h1 (by rw [← hp, e])
  have n1 := str_ne hsn
  have n2 : (s.toList == [47]) = false := by rw [show ([47] : List UInt8) = (⟨#[47]⟩ : ByteArray).toList from by rw [ByteArray.toList_eq]]; exact n1
  cases hl : M.lookup p with
  | none =>
    have hR : removeC M who p = 110 := by unfold removeC; rw [hce, if_neg (by decide), if_neg h1, hl]
    rw [hl, ptrOf] at CA
    rw [hR]
    have CC := Lib.hid CA
    clear CA hcc hT hp hs hR hl h0 h0' hce h1 hc hsn
    go_enter Tryz.func17, Tryz.ntmps17
    go_wp2_with (go_at_call 50; refine CC.out.mono ?_; rintro e w1 ⟨rfl, hb1⟩)
    go_ret
    exact ⟨rfl, hb1⟩
  | some n0 =>
    obtain ⟨a, b, n, hab, hb, hpo, hn, -⟩ := parent_in' hce h1
    have hR : removeC M who p = if mayOk who 2 n.owner n.mode = false then 114 else 0 := by unfold removeC; rw [hce, if_neg (by decide), if_neg h1, hl, hn]
    rw [hR] at hc ⊢
    have hm : mayOk who 2 n.owner n.mode = false := by
      cases hm : mayOk who 2 n.owner n.mode with
      | false => rfl
      | true => rw [if_neg (by rw [hm]; decide)] at hc; exact absurd rfl hc
    rw [if_pos hm]
    rw [hl, ptrOf, vN] at CA
    have CC := Lib.hid CA
    have MC := Lib.hid (fun (W : World) (hT' : TS W tb mb M) => mayChange_any W tb mb M hT'.tr who s a b (by rw [hp, hab]) hb (show s.data.toList.length ≤ 1000000 by rw [hp]; omega) n (by rw [← hab, ← parOf_eq hab hb]; exact hn))
    rw [hm] at MC
    have HT := Lib.hid hT
    clear CA hcc hT hp hs hR hl h0 h0' hce h1 hc hsn hab hb hpo hn hm
    go_enter Tryz.func17, Tryz.ntmps17
    go_wp2_with (first
      | (go_at_call 50; refine CC.out.mono ?_; rintro e w1 ⟨rfl, hb1⟩; have HB1 := Lib.hid hb1; clear hb1)
      | (go_at_call 51; refine (MC.out _ (HT.out.below HB1.out)).mono ?_; rintro e w2 ⟨rfl, q2, hq2⟩; have HB2 := Lib.hid (show Below w.heap.size w w2 by rw [hq2]; exact HB1.out.trans ⟨rfl, rfl, rfl, Nat.le_refl _, fun _ _ => rfl⟩); clear hq2))
    go_ret
    exact ⟨rfl, HB2.out⟩

set_option maxRecDepth 10000 in
set_option maxHeartbeats 4000000 in
theorem remove_ok (w : World) (tb mb : Nat) (M : List (List UInt8 × Nd)) (hT : TS w tb mb M) (who s : ByteArray) (p : List UInt8) (hp : s.data.toList = p) (hs : p.length ≤ 100000) (hc : removeC M who p = 0) (hk : NoKid M p) :
    Calls Tryz.prog 17 #[.pointer (some ⟨tb, 0, none⟩), .string who, .string s] w fun e w' => e = .returned (.int .i64 0) ∧ TS w' tb mb (withoutM M p) ∧ w.grownBy w' (some mb) := by
  have CA := come_any w tb mb M hT.tr who s p hp hs
  have hce : (comeR M who p).2 = 0 := by
    apply Classical.byContradiction
    intro h
    unfold removeC at hc
    rw [if_pos h] at hc
    exact h hc
  have h1 : p ≠ [47] := by
    intro h
    unfold removeC at hc
    rw [hce, if_neg (by decide), if_pos h] at hc
    cases hc
  have hsn : s ≠ ⟨#[47]⟩ := fun e => h1 (by rw [← hp, e])
  have n1 := str_ne hsn
  have n2 : (s.toList == [47]) = false := by rw [show ([47] : List UInt8) = (⟨#[47]⟩ : ByteArray).toList from by rw [ByteArray.toList_eq]]; exact n1
  obtain ⟨a, b, n, hab, hb, hpo, hn, -⟩ := parent_in' hce h1
  cases hl : M.lookup p with
  | none =>
    unfold removeC at hc
    rw [hce, if_neg (by decide), if_neg h1, hl] at hc
    cases hc
  | some n0 =>
    have hm : mayOk who 2 n.owner n.mode = true := by
      unfold removeC at hc
      rw [hce, if_neg (by decide), if_neg h1, hl, hn] at hc
      simp only at hc
      cases hm : mayOk who 2 n.owner n.mode with
      | true => rfl
      | false => rw [if_pos hm] at hc; cases hc
    rw [comeR_ok hce, hce, hl, ptrOf, vN] at CA
    have CC := Lib.hid CA
    have MC := Lib.hid (fun (W : World) (hT' : TS W tb mb M) => mayChange_any W tb mb M hT'.tr who s a b (by rw [hp, hab]) hb (show s.data.toList.length ≤ 1000000 by rw [hp]; omega) n (by rw [← hab, ← parOf_eq hab hb]; exact hn))
    rw [hm] at MC
    have HT := Lib.hid hT
    have NA := Lib.hid (fun (W : World) (hT' : TS W tb mb M) => names_none W tb mb M hT'.tr s (by rw [hp]; exact hk))
    have HP := Lib.hid hp
    have HOK := Lib.hid (okS p (by omega))
    have hse := Lib.hid (bytes_of hp)
    clear CA hT hp hs hl hce h1 hc hsn hab hb hpo hn hm hk
    go_enter Tryz.func17, Tryz.ntmps17
    go_wp2_with (first
      | (go_at_call 50; refine CC.out.mono ?_; rintro e w1 ⟨rfl, hb1⟩; have HB1 := Lib.hid hb1; clear hb1)
      | (go_at_call 51; refine (MC.out _ (HT.out.below HB1.out)).mono ?_; rintro e w2 ⟨rfl, q2, hq2⟩; have HB2 := Lib.hid (show Below w.heap.size w w2 by rw [hq2]; exact HB1.out.trans ⟨rfl, rfl, rfl, Nat.le_refl _, fun _ _ => rfl⟩); clear hq2)
      | (go_at_call 52; refine (NA.out _ (HT.out.below HB2.out)).mono ?_; rintro e w3 ⟨rfl, hb3⟩; have HB3 := Lib.hid (HB2.out.trans (hb3.mono HB2.out.size)); have HT3 := Lib.hid (HT.out.below HB3.out); have kt := (cell_box HT3.out.tr.top).1; clear hb3)
      | (refine wpList_delM keyedS kS_inj rfl _ _ rfl Tryz.underlying94 HT3.out.tr.map rfl p HOK.out (by show Value.string s = kS p; rw [hse.out]; rfl) ?_; intro w4 h4 g4; have HT4 := Lib.hid (HT3.out.del h4 g4.grown); have G4 := Lib.hid ((grownC_of_below HB3.out (Nat.le_refl _)).trans g4.grown); clear h4 g4))
    go_ret
    exact ⟨rfl, HT4.out, G4.out⟩
end Go.Proofs.YtlkchajkhplapaaGreatDoor
