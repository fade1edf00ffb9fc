/- The small functions of tree: bytes, names, modes, rights, parents. -/
import Derived.Test.YtmbmahpklkcioaaDoorCb
import Derived.Test.YtmbmahpklkcioaaDoorReg
import Derived.Test.YtmbmahpklkcioaaDoorShf
namespace Go.Proofs.YtmbmahpklkcioaaDoor
open Go.RowKit

def byteOk (c : Nat) : Bool := decide ((65 ≤ c ∧ c ≤ 90) ∨ (97 ≤ c ∧ c ≤ 122) ∨ (48 ≤ c ∧ c ≤ 57) ∨ c = 45 ∨ c = 46 ∨ c = 95)
def nameOk (l : List UInt8) : Bool := decide (1 ≤ l.length ∧ l.length ≤ 12) && !(l == [46]) && !(l == [46, 46]) && l.all (fun c => byteOk c.toNat)

set_option maxHeartbeats 4000000 in
theorem rightByte_any (w : World) (c : Nat) (hc : c < 256) :
    Calls Tryd.prog 48 #[.int .u8 c] w fun e w' => e = .returned (.bool (byteOk c)) ∧ w' = w := by
  obtain ⟨ok, hok⟩ : ∃ x, byteOk c = x := ⟨_, rfl⟩
  have OK := Lib.hid hok
  rw [hok]
  clear hok
  by_cases h1 : 65 ≤ c ∧ c ≤ 90
  · have a1 : (65 : Int) ≤ (c : Int) := by omega
    have a2 : (c : Int) ≤ 90 := by omega
    have hb : ok = true := by rw [← OK.out]; unfold byteOk; exact decide_eq_true (.inl h1)
    subst hb
    go_enter Tryd.func48, Tryd.ntmps48
    go_wp2
    go_ret
    exact ⟨rfl, rfl⟩
  by_cases h2 : 97 ≤ c ∧ c ≤ 122
  · have a1 : (65 : Int) ≤ (c : Int) := by omega
    have a2 : ¬ (c : Int) ≤ 90 := by omega
    have a3 : (97 : Int) ≤ (c : Int) := by omega
    have a4 : (c : Int) ≤ 122 := by omega
    have hb : ok = true := by rw [← OK.out]; unfold byteOk; exact decide_eq_true (.inr (.inl h2))
    subst hb
    go_enter Tryd.func48, Tryd.ntmps48
    go_wp2
    go_ret
    exact ⟨rfl, rfl⟩
  by_cases h3 : 48 ≤ c ∧ c ≤ 57
  · have a1 : ¬ (65 : Int) ≤ (c : Int) := by omega
    have a3 : ¬ (97 : Int) ≤ (c : Int) := by omega
    have a4 : (48 : Int) ≤ (c : Int) := by omega
    have a5 : (c : Int) ≤ 57 := by omega
    have hb : ok = true := by rw [← OK.out]; unfold byteOk; exact decide_eq_true (.inr (.inr (.inl h3)))
    subst hb
    go_enter Tryd.func48, Tryd.ntmps48
    go_wp2
    go_ret
    exact ⟨rfl, rfl⟩
  by_cases h4 : c = 45 ∨ c = 46 ∨ c = 95
  · have hb : ok = true := by rw [← OK.out]; unfold byteOk; exact decide_eq_true (.inr (.inr (.inr h4)))
    subst hb
    rcases h4 with rfl | rfl | rfl
    all_goals
      go_enter Tryd.func48, Tryd.ntmps48
      go_wp2
      go_ret
      exact ⟨rfl, rfl⟩
  · have hb : ok = false := by rw [← OK.out]; unfold byteOk; exact decide_eq_false (by omega)
    subst hb
    have b1 : ((c : Int) == 45) = false := beq_eq_false_iff_ne.2 (by omega)
    have b2 : ((c : Int) == 46) = false := beq_eq_false_iff_ne.2 (by omega)
    have b3 : ((c : Int) == 95) = false := beq_eq_false_iff_ne.2 (by omega)
    have c1 : ¬ (c : Int) = 45 := by omega
    have c2 : ¬ (c : Int) = 46 := by omega
    have c3 : ¬ (c : Int) = 95 := by omega
    by_cases k1 : 65 ≤ c
    · have a1 : (65 : Int) ≤ (c : Int) := by omega
      have a2 : ¬ (c : Int) ≤ 90 := by omega
      by_cases k2 : 97 ≤ c
      · have a3 : (97 : Int) ≤ (c : Int) := by omega
        have a4 : ¬ (c : Int) ≤ 122 := by omega
        have a5 : (48 : Int) ≤ (c : Int) := by omega
        have a6 : ¬ (c : Int) ≤ 57 := by omega
        go_enter Tryd.func48, Tryd.ntmps48
        go_wp2
        go_ret
        exact ⟨rfl, rfl⟩
      · have a3 : ¬ (97 : Int) ≤ (c : Int) := by omega
        have a5 : (48 : Int) ≤ (c : Int) := by omega
        have a6 : ¬ (c : Int) ≤ 57 := by omega
        go_enter Tryd.func48, Tryd.ntmps48
        go_wp2
        go_ret
        exact ⟨rfl, rfl⟩
    · have a1 : ¬ (65 : Int) ≤ (c : Int) := by omega
      have a3 : ¬ (97 : Int) ≤ (c : Int) := by omega
      by_cases k3 : 48 ≤ c
      · have a5 : (48 : Int) ≤ (c : Int) := by omega
        have a6 : ¬ (c : Int) ≤ 57 := by omega
        go_enter Tryd.func48, Tryd.ntmps48
        go_wp2
        go_ret
        exact ⟨rfl, rfl⟩
      · have a5 : ¬ (48 : Int) ≤ (c : Int) := by omega
        go_enter Tryd.func48, Tryd.ntmps48
        go_wp2
        go_ret
        exact ⟨rfl, rfl⟩

theorem isMode_any (w : World) (n : Int) :
    Calls Tryd.prog 22 #[.int .i64 n] w fun e w' => e = .returned (.bool (decide (0 ≤ n ∧ n ≤ 63))) ∧ w' = w := by
  by_cases h0 : 0 ≤ n
  · by_cases h1 : n ≤ 63
    · rw [decide_eq_true ⟨h0, h1⟩]
      go_enter Tryd.func22, Tryd.ntmps22
      go_wp2
      go_ret
      exact ⟨rfl, rfl⟩
    · rw [decide_eq_false (fun e => h1 e.2)]
      go_enter Tryd.func22, Tryd.ntmps22
      go_wp2
      go_ret
      exact ⟨rfl, rfl⟩
  · rw [decide_eq_false (fun e => h0 e.1)]
    go_enter Tryd.func22, Tryd.ntmps22
    go_wp2
    go_ret
    exact ⟨rfl, rfl⟩
end Go.Proofs.YtmbmahpklkcioaaDoor
