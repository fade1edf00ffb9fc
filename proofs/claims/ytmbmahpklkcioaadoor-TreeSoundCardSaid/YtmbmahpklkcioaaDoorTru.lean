/- Mkdir. -/
import Derived.Test.YtmbmahpklkcioaaDoorTrt
namespace Go.Proofs.YtmbmahpklkcioaaDoor
open Go.RowKit Go.Maps Go.WideMaps

theorem Put.back {w w1 w' : World} {tb mb : Nat} {M : List (List UInt8 × Nd)} {p : List UInt8} {dir : Bool} {owner : ByteArray} {mode : Nat} {l : List UInt8} (hb : Below w.heap.size w w1) (h : Put w1 w' tb mb M p dir owner mode l) : Put w w' tb mb M p dir owner mode l := by
  obtain ⟨nd, h1, h2, h3, h4, h5, h6, h7⟩ := h
  exact ⟨nd, h1, h2, h3, h4, h5, (grownC_of_below hb (Nat.le_refl _)).trans h6, Nat.le_trans hb.size h7⟩

set_option maxRecDepth 10000 in
set_option maxHeartbeats 4000000 in
theorem mkdir_no (w : World) (tb mb : Nat) (M : List (List UInt8 × Nd)) (hT : TS w tb mb M) (ht : ∃ n, M.lookup [47] = some n) (hM : M.length ≤ 1000000) (who s : ByteArray) (p : List UInt8) (hp : s.data.toList = p) (hs : p.length ≤ 100000) (m : Int) (hc : mkdirC M who p m ≠ 0) :
    Calls Tryd.prog 10 #[.pointer (some ⟨tb, 0, none⟩), .string who, .string s, .int .i64 m] w fun e w' => e = .returned (.int .i64 (mkdirC M who p m)) ∧ Below w.heap.size w w' := by
  have CA := come_any w tb mb M hT.tr who s p hp hs
  obtain ⟨c, hcc⟩ : ∃ c, c = (comeR M who p).2 := ⟨_, rfl⟩
  by_cases h0 : c ≠ 0
  · have hR : mkdirC M who p m = c := by unfold mkdirC; rw [← hcc, if_pos h0]
    rw [comeR_no (by rw [← hcc]; exact h0), ← hcc] at CA
    have hcq : (c == 0) = false := beq_eq_false_iff_ne.2 h0
    have CC := Lib.hid CA
    rw [hR]
    clear CA hcc hT hp hs hR hc ht
    go_enter Tryd.func10, Tryd.ntmps10
    go_wp2_with (go_at_call 21; refine CC.out.mono ?_; rintro e w1 ⟨rfl, hb1⟩)
    go_ret
    exact ⟨rfl, hb1⟩
  have h0' : c = 0 := Classical.byContradiction h0
  have hce : (comeR M who p).2 = 0 := by rw [← hcc]; exact h0'
  rw [comeR_ok hce, hce] at CA
  by_cases h1 : 0 ≤ m ∧ m ≤ 63
  · cases hl : M.lookup p with
    | some n =>
      have hR : mkdirC M who p m = 111 := by unfold mkdirC; rw [hce, if_neg (by decide), if_neg (by simpa using h1), hl]
      rw [hl, ptrOf, vN] at CA
      have CC := Lib.hid CA
      have D1 := Lib.hid (decide_eq_true h1)
      rw [hR]
      clear CA hcc hT hp hs hR hl h0 h0' hce h1 hc ht
      go_enter Tryd.func10, Tryd.ntmps10
      go_wp2_with (first
        | (go_at_call 21; refine CC.out.mono ?_; rintro e w1 ⟨rfl, hb1⟩)
        | (go_at_call 22; refine (isMode_any _ m).mono ?_; rintro e w2 ⟨rfl, rfl⟩; rw [D1.out]))
      go_ret
      exact ⟨rfl, hb1⟩
    | none =>
      have hR : mkdirC M who p m = addC M who p := by unfold mkdirC; rw [hce, if_neg (by decide), if_neg (by simpa using h1), hl]
      rw [hR] at hc ⊢
      rw [hl, ptrOf] at CA
      obtain ⟨a, b, n, hab, hb, hpo, hn, -⟩ := parent_in hce ht hl
      obtain ⟨x, rfl⟩ : ∃ x : Nat, m = (x : Int) := ⟨m.toNat, by omega⟩
      have CC := Lib.hid CA
      have D1 := Lib.hid (decide_eq_true h1)
      have AD := Lib.hid (fun (W : World) (hT' : TS W tb mb M) => add_no W tb mb M hT' s who true x (.slice none 0 0) p a b hp hab hb (show s.data.toList.length ≤ 1000000 by rw [hp]; omega) n hn hM hc)
      have HT := Lib.hid hT
      obtain ⟨cc, hcc2⟩ : ∃ cc, addC M who p = cc := ⟨_, rfl⟩
      rw [hcc2] at AD ⊢
      clear CA hcc hT hp hs hR hl h0 h0' hce h1 hc ht hab hb hpo hn hcc2
      go_enter Tryd.func10, Tryd.ntmps10
      go_wp2_with (first
        | (go_at_call 21; refine CC.out.mono ?_; rintro e w1 ⟨rfl, hb1⟩; have HB1 := Lib.hid hb1; clear hb1)
        | (go_at_call 22; refine (isMode_any _ (x : Int)).mono ?_; rintro e w2 ⟨rfl, rfl⟩; rw [D1.out])
        | (go_at_call 23; refine (AD.out _ (HT.out.below HB1.out)).mono ?_; rintro e w3 ⟨rfl, hb3⟩; have HB3 := Lib.hid (HB1.out.trans (hb3.mono HB1.out.size)); clear hb3))
      go_ret
      exact ⟨rfl, HB3.out⟩
  · have hR : mkdirC M who p m = 1 := by unfold mkdirC; rw [hce, if_neg (by decide), if_pos (by simpa using h1)]
    have CC := Lib.hid CA
    have D1 := Lib.hid (decide_eq_false h1)
    rw [hR]
    clear CA hcc hT hp hs hR h0 h0' hce h1 hc ht
    go_enter Tryd.func10, Tryd.ntmps10
    go_wp2_with (first
      | (go_at_call 21; refine CC.out.mono ?_; rintro e w1 ⟨rfl, hb1⟩)
      | (go_at_call 22; refine (isMode_any _ m).mono ?_; rintro e w2 ⟨rfl, rfl⟩; rw [D1.out]))
    go_ret
    exact ⟨rfl, hb1⟩
set_option maxRecDepth 10000 in
set_option maxHeartbeats 4000000 in
theorem mkdir_ok (w : World) (tb mb : Nat) (M : List (List UInt8 × Nd)) (hT : TS w tb mb M) (ht : ∃ n, M.lookup [47] = some n) (who s : ByteArray) (hw : who.size ≤ 1000000) (p : List UInt8) (hp : s.data.toList = p) (hs : p.length ≤ 100000) (m : Int) (hc : mkdirC M who p m = 0) :
    Calls Tryd.prog 10 #[.pointer (some ⟨tb, 0, none⟩), .string who, .string s, .int .i64 m] w fun e w' => e = .returned (.int .i64 0) ∧ Put w w' tb mb M p true who m.toNat [] := by
  have CA := come_any w tb mb M hT.tr who s p hp hs
  have hce : (comeR M who p).2 = 0 := by
    apply Classical.byContradiction
    intro h
    unfold mkdirC at hc
    rw [if_pos h] at hc
    exact h hc
  have h1 : 0 ≤ m ∧ m ≤ 63 := by
    apply Classical.byContradiction
    intro h
    unfold mkdirC at hc
    rw [hce, if_neg (by decide), if_pos h] at hc
    cases hc
  have hl : M.lookup p = none := by
    cases hl : M.lookup p with
    | none => rfl
    | some n =>
      unfold mkdirC at hc
      rw [hce, if_neg (by decide), if_neg (by simpa using h1), hl] at hc
      cases hc
  have hR : addC M who p = 0 := by
    unfold mkdirC at hc
    rw [hce, if_neg (by decide), if_neg (by simpa using h1), hl] at hc
    exact hc
  rw [comeR_ok hce, hce, hl, ptrOf] at CA
  obtain ⟨a, b, n, hab, hb, hpo, hn, -⟩ := parent_in hce ht hl
  obtain ⟨x, rfl⟩ : ∃ x : Nat, m = (x : Int) := ⟨m.toNat, by omega⟩
  have CC := Lib.hid CA
  have D1 := Lib.hid (decide_eq_true h1)
  have AD := Lib.hid (fun (W : World) (hT' : TS W tb mb M) => add_ok W tb mb M hT' s who true x none [] 0 0 rfl (RB.nil_ _ _) (by omega) p a b hp hab hb (show s.data.toList.length ≤ 1000000 by rw [hp]; omega) hw n hn hl (by omega) hR)
  have HT := Lib.hid hT
  clear CA hT hp hs hR hl hce h1 hc ht hab hb hpo hn
  go_enter Tryd.func10, Tryd.ntmps10
  go_wp2_with (first
    | (go_at_call 21; refine CC.out.mono ?_; rintro e w1 ⟨rfl, hb1⟩; have HB1 := Lib.hid hb1; clear hb1)
    | (go_at_call 22; refine (isMode_any _ (x : Int)).mono ?_; rintro e w2 ⟨rfl, rfl⟩; rw [D1.out])
    | (go_at_call 23; refine (AD.out _ (HT.out.below HB1.out)).mono ?_; rintro e w3 ⟨rfl, h3⟩; have H3 := Lib.hid h3; clear h3))
  go_ret
  exact ⟨rfl, H3.out.back HB1.out⟩
end Go.Proofs.YtmbmahpklkcioaaDoor
