/- Chmod. -/
import Derived.Test.YtmbmahpklkcioaaDoorTrm
namespace Go.Proofs.YtmbmahpklkcioaaDoor
open Go.RowKit Go.Maps Go.WideMaps

/-- What Chmod answers, and the node that it turns. -/
def chmodR (M : List (List UInt8 × Nd)) (who : ByteArray) (p : List UInt8) (m : Int) : Int × Option Nd :=
  if (comeR M who p).2 ≠ 0 then ((comeR M who p).2, none) else if ¬ (0 ≤ m ∧ m ≤ 63) then (1, none) else match M.lookup p with
    | none => (110, none)
    | some n => if who ≠ rootB ∧ who ≠ n.owner then (114, none) else (0, some n)
def turned (w1 : World) (m : Int) : Option Nd → World
  | none => w1
  | some n => w1.setCell ⟨n.blk, 3, none⟩ (.int .i64 m)
theorem comeR_ok {M : List (List UInt8 × Nd)} {who : ByteArray} {p : List UInt8} (h : (comeR M who p).2 = 0) : (comeR M who p).1 = ptrOf (M.lookup p) := by
  unfold comeR at h ⊢
  split
  · rename_i h1
    rw [if_pos h1] at h
    cases h
  · rename_i h1
    rw [if_neg h1] at h
    split
    · rfl
    · rename_i h2
      rw [if_neg h2] at h
      exact absurd h h2
theorem comeR_no {M : List (List UInt8 × Nd)} {who : ByteArray} {p : List UInt8} (h : (comeR M who p).2 ≠ 0) : (comeR M who p).1 = .pointer none := by
  unfold comeR at h ⊢
  split
  · rfl
  · rename_i h1
    rw [if_neg h1] at h
    split
    · rename_i h2
      rw [if_pos h2] at h
      exact absurd rfl h
    · rfl
set_option maxHeartbeats 2000000 in
theorem chmod_any (w : World) (tb mb : Nat) (M : List (List UInt8 × Nd)) (hT : TR w tb mb M) (who s : ByteArray) (p : List UInt8) (hp : s.data.toList = p) (hs : p.length ≤ 100000) (m : Int) :
    Calls Tryd.prog 18 #[.pointer (some ⟨tb, 0, none⟩), .string who, .string s, .int .i64 m] w fun e w' => e = .returned (.int .i64 (chmodR M who p m).1) ∧ ∃ w1, Below w.heap.size w w1 ∧ w' = turned w1 m (chmodR M who p m).2 := by
  have CA := come_any w tb mb M hT who s p hp hs
  obtain ⟨c, hc⟩ : ∃ c, c = (comeR M who p).2 := ⟨_, rfl⟩
  by_cases h0 : c ≠ 0
  · have hR : chmodR M who p m = (c, none) := by unfold chmodR; rw [← hc, if_pos h0]
    rw [comeR_no (by rw [← hc]; exact h0), ← hc] at CA
    have hcq : (c == 0) = false := beq_eq_false_iff_ne.2 h0
    have CC := Lib.hid CA
    rw [hR]
    clear CA hc hT hp hs hR
    go_enter Tryd.func18, Tryd.ntmps18
    go_wp2_with (go_at_call 21; refine CC.out.mono ?_; rintro e w1 ⟨rfl, hb1⟩)
    go_ret
    exact ⟨rfl, _, hb1, rfl⟩
  have h0' : c = 0 := Classical.byContradiction h0
  have hce : (comeR M who p).2 = 0 := by rw [← hc]; exact h0'
  rw [comeR_ok hce, hce] at CA
  by_cases h1 : 0 ≤ m ∧ m ≤ 63
  · cases hl : M.lookup p with
    | none =>
      have hR : chmodR M who p m = (110, none) := by unfold chmodR; rw [hce, if_neg (by decide), if_neg (by simpa using h1), hl]
      rw [hl] at CA
      have CC := Lib.hid CA
      have D1 := Lib.hid (decide_eq_true h1)
      rw [hR]
      clear CA hc hT hp hs hR hl h0 h0' hce h1
      go_enter Tryd.func18, Tryd.ntmps18
      go_wp2_with (first
        | (go_at_call 21; refine CC.out.mono ?_; rintro e w1 ⟨rfl, hb1⟩; rw [ptrOf])
        | (go_at_call 22; refine (isMode_any _ m).mono ?_; rintro e w2 ⟨rfl, rfl⟩; rw [D1.out]))
      go_ret
      exact ⟨rfl, _, hb1, rfl⟩
    | some n =>
      rw [hl] at CA
      have hin := lookup_in hl
      have hlt := (hT.nodes _ _ hin).1.lt
      have hN := (hT.nodes _ _ hin).1
      have CC := Lib.hid CA
      have D1 := Lib.hid (decide_eq_true h1)
      have HN := Lib.hid hN
      have HL := Lib.hid hlt
      have hR0 : chmodR M who p m = if who ≠ rootB ∧ who ≠ n.owner then (114, none) else (0, some n) := by unfold chmodR; rw [hce, if_neg (by decide), if_neg (by simpa using h1), hl]
      by_cases hr : who = rootB
      · rw [if_neg (fun e => e.1 hr)] at hR0
        rw [hR0]
        subst hr
        simp only [rootB]
        clear CA hc hT hp hs hR0 hl h0 h0' hce h1 hN hlt hin
        go_enter Tryd.func18, Tryd.ntmps18
        go_wp2_with (first
          | (go_at_call 21; refine CC.out.mono ?_; rintro e w1 ⟨rfl, hb1⟩; rw [ptrOf, vN]; have HN1 := Lib.hid (HN.out.below hb1 HL.out); have HB1 := Lib.hid hb1; have k2 := HN1.out.at_ (i := 2) (v := .string n.owner) rfl; have k3 := HN1.out.at_ (i := 3) (v := .int .i64 n.mode) rfl; have f3 := HN1.out.free 3; clear hb1)
          | (go_at_call 22; refine (isMode_any _ m).mono ?_; rintro e w2 ⟨rfl, rfl⟩; rw [D1.out]))
        go_ret
        exact ⟨rfl, _, HB1.out, rfl⟩
      · have n1 := str_ne hr
        have n1' : (who.toList == [114, 111, 111, 116]) = false := by rw [show ([114, 111, 111, 116] : List UInt8) = rootB.toList from by rw [ByteArray.toList_eq]; rfl]; exact n1
        clear n1
        by_cases ho : who = n.owner
        · rw [if_neg (fun e => e.2 ho)] at hR0
          rw [hR0]
          have how : n.owner = who := ho.symm
          clear ho
          clear CA hc hT hp hs hR0 hl h0 h0' hce h1 hN hlt hin
          go_enter Tryd.func18, Tryd.ntmps18
          go_wp2_with (first
            | (go_at_call 21; refine CC.out.mono ?_; rintro e w1 ⟨rfl, hb1⟩; rw [ptrOf, vN]; have HN1 := Lib.hid (HN.out.below hb1 HL.out); have HB1 := Lib.hid hb1; have k2 := HN1.out.at_ (i := 2) (v := .string who) (by show some (Value.string n.owner) = _; rw [how]); have k3 := HN1.out.at_ (i := 3) (v := .int .i64 n.mode) rfl; have f3 := HN1.out.free 3; clear hb1)
            | (go_at_call 22; refine (isMode_any _ m).mono ?_; rintro e w2 ⟨rfl, rfl⟩; rw [D1.out]))
          go_ret
          exact ⟨rfl, _, HB1.out, rfl⟩
        · rw [if_pos ⟨hr, ho⟩] at hR0
          rw [hR0]
          have n2 := str_ne ho
          clear CA hc hT hp hs hR0 hl h0 h0' hce h1 hN hlt hin
          go_enter Tryd.func18, Tryd.ntmps18
          go_wp2_with (first
            | (go_at_call 21; refine CC.out.mono ?_; rintro e w1 ⟨rfl, hb1⟩; rw [ptrOf, vN]; have HN1 := Lib.hid (HN.out.below hb1 HL.out); have HB1 := Lib.hid hb1; have k2 := HN1.out.at_ (i := 2) (v := .string n.owner) rfl; have k3 := HN1.out.at_ (i := 3) (v := .int .i64 n.mode) rfl; have f3 := HN1.out.free 3; clear hb1)
            | (go_at_call 22; refine (isMode_any _ m).mono ?_; rintro e w2 ⟨rfl, rfl⟩; rw [D1.out]))
          go_ret
          exact ⟨rfl, _, HB1.out, rfl⟩
  · have hR : chmodR M who p m = (1, none) := by unfold chmodR; rw [hce, if_neg (by decide), if_pos (by simpa using h1)]
    have CC := Lib.hid CA
    have D1 := Lib.hid (decide_eq_false h1)
    rw [hR]
    clear CA hc hT hp hs hR h0 h0' hce h1
    go_enter Tryd.func18, Tryd.ntmps18
    go_wp2_with (first
      | (go_at_call 21; refine CC.out.mono ?_; rintro e w1 ⟨rfl, hb1⟩)
      | (go_at_call 22; refine (isMode_any _ m).mono ?_; rintro e w2 ⟨rfl, rfl⟩; rw [D1.out]))
    go_ret
    exact ⟨rfl, _, hb1, rfl⟩
end Go.Proofs.YtmbmahpklkcioaaDoor
