/- Give. -/
import Derived.Test.YtmbmahpklkcioaaDoorTrn
namespace Go.Proofs.YtmbmahpklkcioaaDoor
open Go.RowKit Go.Maps Go.WideMaps

/-- What Give answers, and the node that it turns. -/
def giveR (M : List (List UInt8 × Nd)) (who : ByteArray) (p : List UInt8) : Int × Option Nd :=
  match (findR M who p).1 with
  | none => ((findR M who p).2, none)
  | some n => if who ≠ rootB then (114, none) else (0, some n)
def given (w1 : World) (o : ByteArray) : Option Nd → World
  | none => w1
  | some n => w1.setCell ⟨n.blk, 2, none⟩ (.string o)
theorem findR_cases (M : List (List UInt8 × Nd)) (who : ByteArray) (p : List UInt8) : (∃ c, c ≠ 0 ∧ findR M who p = (none, c)) ∨ (∃ n, (p, n) ∈ M ∧ findR M who p = (some n, 0)) := by
  unfold findR
  by_cases h1 : pathOk p = false
  · rw [if_pos h1]; exact .inl ⟨30, by decide, rfl⟩
  · rw [if_neg h1]
    by_cases h2 : comeE M who (aheads p) = 0
    · rw [if_pos h2]
      cases hl : M.lookup p with
      | none => exact .inl ⟨110, by decide, rfl⟩
      | some n => exact .inr ⟨n, lookup_in hl, rfl⟩
    · rw [if_neg h2]; exact .inl ⟨_, h2, rfl⟩
set_option maxHeartbeats 2000000 in
theorem give_any (w : World) (tb mb : Nat) (M : List (List UInt8 × Nd)) (hT : TR w tb mb M) (who s o : ByteArray) (p : List UInt8) (hp : s.data.toList = p) (hs : p.length ≤ 100000) (ho : o.size ≤ 1000000) :
    Calls Tryd.prog 19 #[.pointer (some ⟨tb, 0, none⟩), .string who, .string s, .string o] w fun e w' => e = .returned (.int .i64 (giveR M who p).1) ∧ ∃ w1, Below w.heap.size w w1 ∧ w' = given w1 o (giveR M who p).2 := by
  have CA := find_any w tb mb M hT who s p hp hs
  rcases findR_cases M who p with ⟨c, h0, hf⟩ | ⟨n, hin, hf⟩
  · have hR : giveR M who p = (c, none) := by unfold giveR; rw [hf]
    rw [hf] at CA
    have hcq : (c == 0) = false := beq_eq_false_iff_ne.2 h0
    have CC := Lib.hid CA
    rw [hR]
    clear CA hT hp hs hR hf
    go_enter Tryd.func19, Tryd.ntmps19
    go_wp2_with (go_at_call 26; refine CC.out.mono ?_; rintro e w1 ⟨rfl, hb1⟩; rw [ptrOf])
    go_ret
    exact ⟨rfl, _, hb1, rfl⟩
  · rw [hf] at CA
    have hlt := (hT.nodes _ _ hin).1.lt
    have hN := (hT.nodes _ _ hin).1
    have CC := Lib.hid CA
    have HN := Lib.hid hN
    have HL := Lib.hid hlt
    by_cases hr : who = rootB
    · have hR : giveR M who p = (0, some n) := by unfold giveR; rw [hf]; simp [hr]
      rw [hR]
      subst hr
      simp only [rootB]
      have HO := Lib.hid ho
      clear CA hT hp hs hR hf hN hlt hin ho
      go_enter Tryd.func19, Tryd.ntmps19
      go_wp2_with (first
        | (go_at_call 26; refine CC.out.mono ?_; rintro e w1 ⟨rfl, hb1⟩; rw [ptrOf, vN]; have HN1 := Lib.hid (HN.out.below hb1 HL.out); have HB1 := Lib.hid hb1; clear hb1)
        | (go_at_call 36; refine (clone_any o _ HO.out).mono ?_; rintro e w2 ⟨rfl, hb2⟩; have HN2 := Lib.hid (HN1.out.below hb2 HN1.out.lt); have HB2 := Lib.hid (HB1.out.trans (hb2.mono HB1.out.size)); have k2 := HN2.out.at_ (i := 2) (v := .string n.owner) rfl; have f2 := HN2.out.free 2; clear hb2))
      go_ret
      exact ⟨rfl, _, HB2.out, rfl⟩
    · have hR : giveR M who p = (114, none) := by unfold giveR; rw [hf]; simp [hr]
      rw [hR]
      have n1 := str_ne hr
      have n1' : (who.toList == [114, 111, 111, 116]) = false := by rw [show ([114, 111, 111, 116] : List UInt8) = rootB.toList from by rw [ByteArray.toList_eq]; rfl]; exact n1
      clear n1
      clear CA hT hp hs hR hf hN hlt hin ho
      go_enter Tryd.func19, Tryd.ntmps19
      go_wp2_with (go_at_call 26; refine CC.out.mono ?_; rintro e w1 ⟨rfl, hb1⟩; rw [ptrOf, vN])
      go_ret
      exact ⟨rfl, _, hb1, rfl⟩
end Go.Proofs.YtmbmahpklkcioaaDoor
