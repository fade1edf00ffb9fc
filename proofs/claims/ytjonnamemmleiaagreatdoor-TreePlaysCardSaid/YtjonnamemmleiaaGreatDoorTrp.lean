/- Give. -/
import Derived.Test.YtjonnamemmleiaaGreatDoorTrn
namespace Go.Proofs.YtjonnamemmleiaaGreatDoor
open Go.RowKit Go.Maps Go.WideMaps

/-- What Give answers, and the node that it turns. -/
def giveR (M : List (List UInt8 × Nd)) (who : ByteArray) (p : List UInt8) : Int × Option Nd :=
  match (findR M who p).1 with
  | none => ((findR M who p).2, none)
  | some n => if who ≠ rootB then (114, none) else (0, some n)
def given (w1 : World) (o : ByteArray) : Option Nd → World
  | none => w1
  | some n => w1.setCell ⟨n.blk, 2, none⟩ (.string o)
theorem findR_cases (M : List (List UInt8 × Nd)) (who : ByteArray) (p : List UInt8) : (∃ c, c ≠ 0 ∧ findR M who p = (none, c)) ∨ (∃ n, (p, n) ∈ M ∧ findR M who p = (some n, 0)) := by
  unfold findR
  by_cases h1 : pathOk p = false
  · rw [if_pos h1]; exact .inl ⟨30, by decide, rfl⟩
  · rw [if_neg h1]
    by_cases h2 : comeE M who (aheads p) = 0
    · rw [if_pos h2]
      cases hl : M.lookup p with
      | none => exact .inl ⟨110, by decide, rfl⟩
      | some n => exact .inr ⟨n, lookup_in hl, rfl⟩
    · rw [if_neg h2]; exact .inl ⟨_, h2, rfl⟩
set_option maxHeartbeats 2000000 in
theorem give_any (w : World) (tb mb : Nat) (M : List (List UInt8 × Nd)) (hT : TR w tb mb M) (who s o : ByteArray) (p : List UInt8) (hp : s.data.toList = p) (hs : p.length ≤ 100000) (ho : o.size ≤ 1000000) :
    Calls Tryz.prog 21 #[.pointer (some ⟨tb, 0, none⟩), .string who, .string s, .string o] w fun e w' => e = .returned (.int .i64 (giveR M who p).1) ∧ ∃ w1, Below w.heap.size w w1 ∧ w' = given w1 o (giveR M who p).2 := by
  have CA := find_any w tb mb M hT who s p hp hs
  rcases findR_cases M who p with ⟨c, h0, hf⟩ | ⟨n, hin, hf⟩
  · have hR : giveR M who p = (c, none) := by unfold giveR; rw [hf]
    rw [hf] at CA
    have hcq : (c == 0) = false := beq_eq_false_iff_ne.2 h0
    have CC := Lib.hid CA
    rw [hR]
    clear CA hT hp hs hR hf
    go_enter Tryz.func21, Tryz.ntmps21
    go_wp2_with (go_at_call 58; refine CC.out.mono ?_; rintro e w1 ⟨rfl, hb1⟩; rw [ptrOf])
    go_ret
    exact ⟨rfl, _, hb1, rfl⟩
  · rw [hf] at CA
    have hlt := (hT.nodes _ _ hin).1.lt
    have hN := (hT.nodes _ _ hin).1
    have CC := Lib.hid CA
    have HN := Lib.hid hN
    have HL := Lib.hid hlt
    by_cases hr : who = rootB
    · have hR : giveR M who p = (0, some n) := by unfold giveR; rw [hf]; simp [hr]
      rw [hR]
      subst hr
      simp only [rootB]
      have HO := Lib.hid ho
      clear CA hT hp hs hR hf hN hlt hin ho
      go_enter Tryz.func21, Tryz.ntmps21
      go_wp2_with (first
        | (go_at_call 58; refine CC.out.mono ?_; rintro e w1 ⟨rfl, hb1⟩; rw [ptrOf, vN]; have HN1 := Lib.hid (HN.out.below hb1 HL.out); have HB1 := Lib.hid hb1; clear hb1)
        | (go_at_call 59; refine (clone_any o _ HO.out).mono ?_; rintro e w2 ⟨rfl, hb2⟩; have HN2 := Lib.hid (HN1.out.below hb2 HN1.out.lt); have HB2 := Lib.hid (HB1.out.trans (hb2.mono HB1.out.size)); have k2 := HN2.out.at_ (i := 2) (v := .string n.owner) rfl; have f2 := HN2.out.free 2; clear hb2))
      go_ret
      exact ⟨rfl, _, HB2.out, rfl⟩
    · have hR : giveR M who p = (114, none) := by unfold giveR; rw [hf]; simp [hr]
      rw [hR]
      have n1 := str_ne hr
      have n1' : (who.toList == [114, 111, 111, 116]) = false := by rw [show ([114, 111, 111, 116] : List UInt8) = rootB.toList from by rw [ByteArray.toList_eq]; rfl]; exact n1
      clear n1
      clear CA hT hp hs hR hf hN hlt hin ho
      go_enter Tryz.func21, Tryz.ntmps21
      go_wp2_with (go_at_call 58; refine CC.out.mono ?_; rintro e w1 ⟨rfl, hb1⟩; rw [ptrOf, vN])
      go_ret
      exact ⟨rfl, _, hb1, rfl⟩
end Go.Proofs.YtjonnamemmleiaaGreatDoor
namespace Go.Proofs.YtjonnamemmleiaaGreatDoor
open Go.RowKit Go.Maps Go.WideMaps

/-- What Read answers: a file, or why not. -/
def readR (M : List (List UInt8 × Nd)) (who : ByteArray) (p : List UInt8) : Option Nd × Int :=
  match (findR M who p).1 with
  | none => (none, (findR M who p).2)
  | some n => if n.dir = true then (none, 113) else if mayOk who 4 n.owner n.mode = false then (none, 114) else (some n, 0)
set_option maxHeartbeats 2000000 in
theorem read_any (w : World) (tb mb : Nat) (M : List (List UInt8 × Nd)) (hT : TS w tb mb M) (who s : ByteArray) (p : List UInt8) (hp : s.data.toList = p) (hs : p.length ≤ 100000) :
    Calls Tryz.prog 66 #[.pointer (some ⟨tb, 0, none⟩), .string who, .string s] w fun e w' => Below w.heap.size w w' ∧ (match (readR M who p).1 with
      | none => e = .returned (.tuple #[.slice none 0 0, .int .i64 (readR M who p).2])
      | some n => ∃ A c l, OwnB w 0 5 n.data l ∧ e = .returned (.tuple #[.slice A l.length c, .int .i64 0]) ∧ OwnB w' w.heap.size 5 (.slice A l.length c) l) := by
  have CA := find_any w tb mb M hT.tr who s p hp hs
  rcases findR_cases M who p with ⟨c, h0, hf⟩ | ⟨n, hin, hf⟩
  · have hR : readR M who p = (none, c) := by unfold readR; rw [hf]
    rw [hf] at CA
    have hcq : (c == 0) = false := beq_eq_false_iff_ne.2 h0
    have CC := Lib.hid CA
    rw [hR]
    clear CA hT hp hs hR hf
    go_enter Tryz.func66, Tryz.ntmps66
    go_wp2_with (go_at_call 58; refine CC.out.mono ?_; rintro e w1 ⟨rfl, hb1⟩; rw [ptrOf])
    go_ret2
    exact ⟨hb1, rfl⟩
  · rw [hf] at CA
    have hN := hT.tr.nodes _ _ hin
    have hlt := hN.1.lt
    have CC := Lib.hid CA
    have HN := Lib.hid hN
    have HL := Lib.hid hlt
    have hR0 : readR M who p = if n.dir = true then (none, 113) else if mayOk who 4 n.owner n.mode = false then (none, 114) else (some n, 0) := by unfold readR; rw [hf]
    cases hd : n.dir with
    | true =>
      rw [if_pos hd] at hR0
      rw [hR0]
      have HD := Lib.hid hd
      clear CA hT hp hs hR0 hf hN hlt hin hd
      go_enter Tryz.func66, Tryz.ntmps66
      go_wp2_with (go_at_call 58; refine CC.out.mono ?_; rintro e w1 ⟨rfl, hb1⟩; rw [ptrOf, vN]; have HN1 := Lib.hid (HN.out.1.below hb1 HL.out); have HB1 := Lib.hid hb1; have k1 := HN1.out.at_ (i := 1) (v := .bool true) (by show some (Value.bool n.dir) = _; rw [HD.out]); clear hb1)
      go_ret2
      exact ⟨HB1.out, rfl⟩
    | false =>
      rw [if_neg (by rw [hd]; decide)] at hR0
      have HD := Lib.hid hd
      cases hm : mayOk who 4 n.owner n.mode with
      | false =>
        rw [if_pos hm] at hR0
        rw [hR0]
        have HM := Lib.hid hm
        clear CA hT hp hs hR0 hf hN hlt hin hd hm
        go_enter Tryz.func66, Tryz.ntmps66
        go_wp2_with (first
          | (go_at_call 58; refine CC.out.mono ?_; rintro e w1 ⟨rfl, hb1⟩; rw [ptrOf, vN]; have HN1 := Lib.hid (HN.out.1.below hb1 HL.out); have HB1 := Lib.hid hb1; have k1 := HN1.out.at_ (i := 1) (v := .bool false) (by show some (Value.bool n.dir) = _; rw [HD.out]); clear hb1)
          | (go_at_call 63; refine (may_any _ who 4 n.blk _ n.owner n.dir n.mode n.data HN1.out HN.out.2 (.inr (.inr rfl))).mono ?_; rintro e w2 ⟨rfl, rfl⟩; rw [HM.out]))
        go_ret2
        exact ⟨HB1.out, rfl⟩
      | true =>
        rw [if_neg (by rw [hm]; decide)] at hR0
        rw [hR0]
        obtain ⟨l, hol, hll⟩ := hT.row _ _ hin
        obtain ⟨A, cap, hv, hrb, -⟩ := hol.shape
        have HM := Lib.hid hm
        have HV := Lib.hid hv
        have HRB := Lib.hid hrb
        have HOL := Lib.hid hol
        have HLL := Lib.hid hll
        clear CA hT hp hs hR0 hf hN hlt hin hd hm hv hrb hol hll
        go_enter Tryz.func66, Tryz.ntmps66
        go_wp2_with (first
          | (go_at_call 58; refine CC.out.mono ?_; rintro e w1 ⟨rfl, hb1⟩; rw [ptrOf, vN]; have HN1 := Lib.hid (HN.out.1.below hb1 HL.out); have HB1 := Lib.hid hb1; have k1 := HN1.out.at_ (i := 1) (v := .bool false) (by show some (Value.bool n.dir) = _; rw [HD.out]); have k4 := HN1.out.at_ (i := 4) (v := .slice A l.length cap) (by show some n.data = _; rw [HV.out]); clear hb1)
          | (go_at_call 63; refine (may_any _ who 4 n.blk _ n.owner n.dir n.mode n.data HN1.out HN.out.2 (.inr (.inr rfl))).mono ?_; rintro e w2 ⟨rfl, rfl⟩; rw [HM.out])
          | (go_at_call 64; refine (bclone_any A l cap l.length _ rfl ((HRB.out.below HB1.out).more HB1.out.size) (by have := HLL.out; omega)).mono ?_; rintro e w3 ⟨A', c', rfl, ho3, hb3⟩; have HO3 := Lib.hid ho3; have HB3 := Lib.hid hb3; clear ho3 hb3))
        go_ret2
        exact ⟨HB1.out.trans (HB3.out.mono HB1.out.size), A', c', l, HOL.out, rfl, HO3.out.base_ HB1.out.size⟩
end Go.Proofs.YtjonnamemmleiaaGreatDoor
