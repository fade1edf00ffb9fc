/- find. -/
import Derived.Test.YtmbmahpklkcioaaDoorTri
namespace Go.Proofs.YtmbmahpklkcioaaDoor
open Go.RowKit Go.Maps Go.WideMaps

/-- What find answers: nothing found is an answer of its own. -/
def findR (M : List (List UInt8 × Nd)) (who : ByteArray) (p : List UInt8) : Option Nd × Int :=
  if pathOk p = false then (none, 30) else if comeE M who (aheads p) = 0 then (match M.lookup p with | none => (none, 110) | some n => (some n, 0)) else (none, comeE M who (aheads p))
set_option maxHeartbeats 1000000 in
theorem find_any (w : World) (tb mb : Nat) (M : List (List UInt8 × Nd)) (hT : TR w tb mb M) (who s : ByteArray) (p : List UInt8) (hp : s.data.toList = p) (hs : p.length ≤ 100000) :
    Calls Tryd.prog 26 #[.pointer (some ⟨tb, 0, none⟩), .string who, .string s] w fun e w' => e = .returned (.tuple #[ptrOf (findR M who p).1, .int .i64 (findR M who p).2]) ∧ Below w.heap.size w w' := by
  have CA := Lib.hid (come_any w tb mb M hT who s p hp hs)
  clear hT hp hs
  have key : ∀ (u : Value) (c : Int), comeR M who p = (u, c) → ((u = .pointer none ∧ c ≠ 0 ∧ findR M who p = (none, c)) ∨ (u = .pointer none ∧ c = 0 ∧ findR M who p = (none, 110)) ∨ (∃ n, u = vN n ∧ c = 0 ∧ findR M who p = (some n, 0))) := by
    intro u c h
    unfold comeR at h
    unfold findR
    by_cases h1 : pathOk p = false
    · rw [if_pos h1] at h ⊢
      cases h
      exact .inl ⟨rfl, by decide, rfl⟩
    · rw [if_neg h1] at h ⊢
      by_cases h2 : comeE M who (aheads p) = 0
      · rw [if_pos h2] at h ⊢
        cases hl : M.lookup p with
        | none => rw [hl] at h; cases h; exact .inr (.inl ⟨rfl, rfl, rfl⟩)
        | some n => rw [hl] at h; cases h; exact .inr (.inr ⟨n, rfl, rfl, rfl⟩)
      · rw [if_neg h2] at h ⊢
        cases h
        exact .inl ⟨rfl, h2, rfl⟩
  obtain ⟨⟨u, c⟩, hR⟩ : ∃ x, comeR M who p = x := ⟨_, rfl⟩
  have CB' := CA.out
  rw [hR] at CB'
  have CC := Lib.hid CB'
  clear CA CB'
  rcases key u c hR with ⟨rfl, hc, hF⟩ | ⟨rfl, rfl, hF⟩ | ⟨n, rfl, rfl, hF⟩
  · have hcq : (c == 0) = false := beq_eq_false_iff_ne.2 hc
    rw [hF]
    clear key hR hF
    go_enter Tryd.func26, Tryd.ntmps26
    go_wp2_with (go_at_call 21; refine CC.out.mono ?_; rintro e w1 ⟨rfl, hb1⟩)
    go_ret2
    exact ⟨rfl, hb1⟩
  · rw [hF]
    clear key hR hF
    go_enter Tryd.func26, Tryd.ntmps26
    go_wp2_with (go_at_call 21; refine CC.out.mono ?_; rintro e w1 ⟨rfl, hb1⟩)
    go_ret2
    exact ⟨rfl, hb1⟩
  · rw [hF]
    clear key hR hF
    rw [vN] at CC
    go_enter Tryd.func26, Tryd.ntmps26
    go_wp2_with (go_at_call 21; refine CC.out.mono ?_; rintro e w1 ⟨rfl, hb1⟩)
    go_ret2
    exact ⟨rfl, hb1⟩
end Go.Proofs.YtmbmahpklkcioaaDoor
