/- Read. -/
import Derived.Test.YtmbmahpklkcioaaDoorTro
namespace Go.Proofs.YtmbmahpklkcioaaDoor
open Go.RowKit Go.Maps Go.WideMaps

/-- What Read answers: a file, or why not. -/
def readR (M : List (List UInt8 × Nd)) (who : ByteArray) (p : List UInt8) : Option Nd × Int :=
  match (findR M who p).1 with
  | none => (none, (findR M who p).2)
  | some n => if n.dir = true then (none, 113) else if mayOk who 4 n.owner n.mode = false then (none, 114) else (some n, 0)
set_option maxHeartbeats 2000000 in
theorem read_any (w : World) (tb mb : Nat) (M : List (List UInt8 × Nd)) (hT : TS w tb mb M) (who s : ByteArray) (p : List UInt8) (hp : s.data.toList = p) (hs : p.length ≤ 100000) :
    Calls Tryd.prog 12 #[.pointer (some ⟨tb, 0, none⟩), .string who, .string s] w fun e w' => Below w.heap.size w w' ∧ (match (readR M who p).1 with
      | none => e = .returned (.tuple #[.slice none 0 0, .int .i64 (readR M who p).2])
      | some n => ∃ A c l, OwnB w 0 5 n.data l ∧ e = .returned (.tuple #[.slice A l.length c, .int .i64 0]) ∧ OwnB w' w.heap.size 5 (.slice A l.length c) l) := by
  have CA := find_any w tb mb M hT.tr who s p hp hs
  rcases findR_cases M who p with ⟨c, h0, hf⟩ | ⟨n, hin, hf⟩
  · have hR : readR M who p = (none, c) := by unfold readR; rw [hf]
    rw [hf] at CA
    have hcq : (c == 0) = false := beq_eq_false_iff_ne.2 h0
    have CC := Lib.hid CA
    rw [hR]
    clear CA hT hp hs hR hf
    go_enter Tryd.func12, Tryd.ntmps12
    go_wp2_with (go_at_call 26; refine CC.out.mono ?_; rintro e w1 ⟨rfl, hb1⟩; rw [ptrOf])
    go_ret2
    exact ⟨hb1, rfl⟩
  · rw [hf] at CA
    have hN := hT.tr.nodes _ _ hin
    have hlt := hN.1.lt
    have CC := Lib.hid CA
    have HN := Lib.hid hN
    have HL := Lib.hid hlt
    have hR0 : readR M who p = if n.dir = true then (none, 113) else if mayOk who 4 n.owner n.mode = false then (none, 114) else (some n, 0) := by unfold readR; rw [hf]
    cases hd : n.dir with
    | true =>
      rw [if_pos hd] at hR0
      rw [hR0]
      have HD := Lib.hid hd
      clear CA hT hp hs hR0 hf hN hlt hin hd
      go_enter Tryd.func12, Tryd.ntmps12
      go_wp2_with (go_at_call 26; refine CC.out.mono ?_; rintro e w1 ⟨rfl, hb1⟩; rw [ptrOf, vN]; have HN1 := Lib.hid (HN.out.1.below hb1 HL.out); have HB1 := Lib.hid hb1; have k1 := HN1.out.at_ (i := 1) (v := .bool true) (by show some (Value.bool n.dir) = _; rw [HD.out]); clear hb1)
      go_ret2
      exact ⟨HB1.out, rfl⟩
    | false =>
      rw [if_neg (by rw [hd]; decide)] at hR0
      have HD := Lib.hid hd
      cases hm : mayOk who 4 n.owner n.mode with
      | false =>
        rw [if_pos hm] at hR0
        rw [hR0]
        have HM := Lib.hid hm
        clear CA hT hp hs hR0 hf hN hlt hin hd hm
        go_enter Tryd.func12, Tryd.ntmps12
        go_wp2_with (first
          | (go_at_call 26; refine CC.out.mono ?_; rintro e w1 ⟨rfl, hb1⟩; rw [ptrOf, vN]; have HN1 := Lib.hid (HN.out.1.below hb1 HL.out); have HB1 := Lib.hid hb1; have k1 := HN1.out.at_ (i := 1) (v := .bool false) (by show some (Value.bool n.dir) = _; rw [HD.out]); clear hb1)
          | (go_at_call 24; refine (may_any _ who 4 n.blk _ n.owner n.dir n.mode n.data HN1.out HN.out.2 (.inr (.inr rfl))).mono ?_; rintro e w2 ⟨rfl, rfl⟩; rw [HM.out]))
        go_ret2
        exact ⟨HB1.out, rfl⟩
      | true =>
        rw [if_neg (by rw [hm]; decide)] at hR0
        rw [hR0]
        obtain ⟨l, hol, hll⟩ := hT.row _ _ hin
        obtain ⟨A, cap, hv, hrb, -⟩ := hol.shape
        have HM := Lib.hid hm
        have HV := Lib.hid hv
        have HRB := Lib.hid hrb
        have HOL := Lib.hid hol
        have HLL := Lib.hid hll
        clear CA hT hp hs hR0 hf hN hlt hin hd hm hv hrb hol hll
        go_enter Tryd.func12, Tryd.ntmps12
        go_wp2_with (first
          | (go_at_call 26; refine CC.out.mono ?_; rintro e w1 ⟨rfl, hb1⟩; rw [ptrOf, vN]; have HN1 := Lib.hid (HN.out.1.below hb1 HL.out); have HB1 := Lib.hid hb1; have k1 := HN1.out.at_ (i := 1) (v := .bool false) (by show some (Value.bool n.dir) = _; rw [HD.out]); have k4 := HN1.out.at_ (i := 4) (v := .slice A l.length cap) (by show some n.data = _; rw [HV.out]); clear hb1)
          | (go_at_call 24; refine (may_any _ who 4 n.blk _ n.owner n.dir n.mode n.data HN1.out HN.out.2 (.inr (.inr rfl))).mono ?_; rintro e w2 ⟨rfl, rfl⟩; rw [HM.out])
          | (go_at_call 25; refine (bclone_any A l cap l.length _ rfl ((HRB.out.below HB1.out).more HB1.out.size) (by have := HLL.out; omega)).mono ?_; rintro e w3 ⟨A', c', rfl, ho3, hb3⟩; have HO3 := Lib.hid ho3; have HB3 := Lib.hid hb3; clear ho3 hb3))
        go_ret2
        exact ⟨HB1.out.trans (HB3.out.mono HB1.out.size), A', c', l, HOL.out, rfl, HO3.out.base_ HB1.out.size⟩
end Go.Proofs.YtmbmahpklkcioaaDoor
