/- The walk of the document's Text. -/
import Derived.Test.YtedffhoekmgdpaaDoorApW
namespace Go.Proofs.YtedffhoekmgdpaaDoor
open Go.RowKit

theorem join_snoc (c : UInt8) (p : List UInt8) : ∀ xs : List (List UInt8), xs ≠ [] → Lib.join (xs ++ [p]) [c] = Lib.join xs [c] ++ c :: p
  | [], h => absurd rfl h
  | [x], _ => by rw [List.cons_append, List.nil_append, join_cons _ _ (by simp), join_one, join_one]
  | x :: y :: ys, _ => by
    have ih := join_snoc c p (y :: ys) (by simp)
    rw [List.cons_append, join_cons x (y :: ys ++ [p]) (by simp) c, ih, join_cons x (y :: ys) (by simp) c]
    simp
theorem dl_take_succ (ls : List ByteArray) (k : Nat) (hk : k < ls.length) : (dl ls).take (k + 1) = (dl ls).take k ++ [ls[k].data.toList] := by
  rw [List.take_succ_eq_append_getElem (by rw [dl_length]; exact hk)]
  simp [dl]
theorem app_data (a b : ByteArray) : (a ++ b).data.toList = a.data.toList ++ b.data.toList := by simp

set_option maxHeartbeats 400000 in
theorem refText_any (A : Option Addr) (ls : List ByteArray) (cap : Nat) (r : ByteArray) (w : World) (h : RS w w.heap.size A ls cap) (hok : nameOk (dl ls) r.data.toList = true) (n : Nat) (hn : ls.length = n) :
    Calls Tryd.prog 14 #[.agg #[.slice A n cap, .string r]] w fun e w' => e = .returned (.string ⟨(textOf (dl ls) r.data.toList).toArray⟩) ∧ Below w.heap.size w w' := by
  have hbe := (Below.refl w.heap.size w).alloc (Nat.le_refl _) (.cells #[.slice A n cap, .string r] 24)
  have HBE := Lib.hid hbe
  obtain ⟨hp1, hp2, hp3⟩ := nameOk_iff.1 hok
  rw [dl_length, hn] at hp1
  have HP2 := Lib.hid hp2
  have hrl := (partOk_len hp3).2
  have hrs : r.size ≤ 16 := hrl
  have HN := Lib.hid hn
  obtain ⟨bk, off, rfl, hbk, hcell⟩ := h.open_ (by omega)
  have HC := Lib.hid hcell
  have HOK := Lib.hid hok
  clear hbe h hok hp2 hp3 hcell hrl
  go_enter Tryd.func14, Tryd.ntmps14
  go_wp2
  go_loop [4, 3] (fun i s => ∃ (k : Nat) (S : ByteArray), i = .int .i64 k ∧ k ≤ n ∧ s = .string S ∧ S.data.toList = Lib.join ((dl ls).take k) [47]) (fun i _ => n - (intOf i).toNat)
  case atStart => exact ⟨0, ⟨#[]⟩, rfl, by omega, rfl, rfl⟩
  case round =>
    obtain ⟨k, S, rfl, hk, rfl, hS⟩ := hrel
    have hSl : S.size ≤ 51 := by
      rw [size_list, hS]
      by_cases h0 : k = 0
      · subst h0; simp [Lib.join, List.intercalate]
      · have := join_len 47 ((dl ls).take k) (by intro e; have := congrArg List.length e; rw [List.length_take, dl_length, HN.out] at this; simp at this; omega) (fun p hp => (partOk_len (HP2.out p (List.mem_of_mem_take hp))).2)
        rw [List.length_take, dl_length, HN.out] at this
        omega
    by_cases hlt : k < n
    · have hki : (k : Int) < (n : Int) := by omega
      have hc := HC.out k (by rw [HN.out]; exact hlt)
      have hx := dl_take_succ ls k (by rw [HN.out]; exact hlt)
      have hpl := (partOk_len (HP2.out (ls[k]'(by rw [HN.out]; exact hlt)).data.toList (List.mem_map.2 ⟨_, List.getElem_mem _, rfl⟩))).2
      obtain ⟨s, hs⟩ : ∃ s, s = ls[k]'(by rw [HN.out]; exact hlt) := ⟨_, rfl⟩
      rw [← hs] at hc hx hpl
      have hsz : s.size ≤ 16 := hpl
      by_cases h0 : k = 0
      · subst h0
        have HX := Lib.hid (show (S ++ s).data.toList = Lib.join ((dl ls).take (0 + 1)) [47] by rw [app_data, hS, hx]; simp [Lib.join, List.intercalate])
        have hcat : ¬ 9223372036854775807 < S.size + s.size := by omega
        rw [Nat.add_zero] at hc
        clear hS hx hpl hs
        go_wp2
        go_round
        case rel => exact ⟨0 + 1, _, by go_num, by omega, rfl, HX.out⟩
        case measure => simp [intOf]; omega
      · have HX := Lib.hid (show (S ++ ⟨#[47]⟩ ++ s).data.toList = Lib.join ((dl ls).take (k + 1)) [47] by
          rw [app_data, app_data, hS, hx, join_snoc _ _ _ (by intro e; have := congrArg List.length e; rw [List.length_take, dl_length, HN.out] at this; simp at this; omega)]
          simp)
        have h0i : (0 : Int) < (k : Int) := by omega
        have hcat : ¬ 9223372036854775807 < S.size + 1 := by omega
        have hcat2 : ¬ 9223372036854775807 < S.size + 1 + s.size := by omega
        clear hS hx hpl hs
        go_wp2
        go_round
        case rel => exact ⟨k + 1, _, by go_num, by omega, rfl, HX.out⟩
        case measure => simp [intOf]; omega
    · have hki : ¬ (k : Int) < (n : Int) := by omega
      have HT := Lib.hid (show S ++ ⟨#[64]⟩ ++ r = ⟨(textOf (dl ls) r.data.toList).toArray⟩ from bytes_eq (by
        rw [app_data, app_data, hS, List.take_of_length_le (by rw [dl_length, HN.out]; omega), textOf]))
      have hcat : ¬ 9223372036854775807 < S.size + 1 := by omega
      have hcat2 : ¬ 9223372036854775807 < S.size + 1 + r.size := by omega
      clear hS
      go_wp2
      go_ret
      exact ⟨by rw [← HT.out]; rfl, HBE.out⟩
end Go.Proofs.YtedffhoekmgdpaaDoor
