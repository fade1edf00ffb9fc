/- Mkdir, Write, Remove by anybody keep a Tree sound; the document's Parent. -/
import Derived.Test.YtmbmahpklkcioaaDoorTsl
namespace Go.Proofs.YtmbmahpklkcioaaDoor
open Go.RowKit Go.Maps Go.WideMaps

section
variable {w0 w : World} {tb mb : Nat} {M : List (List UInt8 × Nd)}
theorem SndM.top' (h : SndM M) : ∃ n, M.lookup [47] = some n := by
  obtain ⟨n, h1, _⟩ := h.top
  exact ⟨n, h1⟩
theorem c_mkdir (h : TG w0 w tb mb M) (hS : SndM M) (who s : ByteArray) (hw : who.size ≤ 100) (hs : s.size ≤ 300) (m : Int) :
    Calls Tryd.prog 10 #[.pointer (some ⟨tb, 0, none⟩), .string who, .string s, .int .i64 m] w fun e w' => ∃ c M', e = .returned (.int .i64 c) ∧ TG w0 w' tb mb M' ∧ SndM M' := by
  have hsl : s.data.toList.length ≤ 300 := hs
  by_cases hc : mkdirC M who s.data.toList m = 0
  · have hz : (comeR M who s.data.toList).2 = 0 ∧ M.lookup s.data.toList = none ∧ M.length < 64 := by
      unfold mkdirC at hc
      by_cases h1 : (comeR M who s.data.toList).2 ≠ 0
      · rw [if_pos h1] at hc; exact absurd hc h1
      rw [if_neg h1] at hc
      by_cases h2 : ¬ (0 ≤ m ∧ m ≤ 63)
      · rw [if_pos h2] at hc; cases hc
      rw [if_neg h2] at hc
      have h0 := Classical.byContradiction h1
      cases hl : M.lookup s.data.toList with
      | some n => rw [hl] at hc; cases hc
      | none => rw [hl] at hc; exact ⟨h0, rfl, add_lt h0 hS.top' hl hc⟩
    refine (mkdir_ok w tb mb M h.ts hS.top' who s (by omega) _ rfl (by omega) m hc).mono ?_
    rintro e w' ⟨rfl, hp⟩
    obtain ⟨b, v, t, o⟩ := h.put hp
    obtain ⟨A, c, hv, -, -⟩ := o.shape
    exact ⟨_, _, rfl, t, hS.put _ hz.1 hz.2.1 hz.2.2 hsl (show who.size ≤ 1000000 by omega) (fun _ => ⟨A, c, hv⟩)⟩
  · exact (g_mkdir_no h hS.top' (by have := hS.len; omega) who s _ rfl (by omega) m _ rfl hc).mono fun _ _ hh => ⟨_, M, hh.1, hh.2.1, hS⟩
theorem c_write (h : TG w0 w tb mb M) (hS : SndM M) (who s : ByteArray) (hw : who.size ≤ 100) (hs : s.size ≤ 300) (A : Option Addr) (l : List UInt8) (k cap : Nat) (hk : l.length = k) (hr : RB w w.heap.size A l cap) (m : Int) :
    Calls Tryd.prog 11 #[.pointer (some ⟨tb, 0, none⟩), .string who, .string s, .slice A k cap, .int .i64 m] w fun e w' => ∃ c M', e = .returned (.int .i64 c) ∧ TG w0 w' tb mb M' ∧ SndM M' := by
  have hsl : s.data.toList.length ≤ 300 := hs
  by_cases hc : writeC M who s.data.toList k m = 0
  · obtain ⟨hce, hm, hk1⟩ := writeC_zero hc
    have hc2 := hc
    unfold writeC at hc2
    rw [hce, if_neg (by decide), if_neg (by simpa using hm), if_neg (by omega)] at hc2
    cases hl : M.lookup s.data.toList with
    | none =>
      rw [hl] at hc2
      refine (write_put w tb mb M h.ts hS.top' who s (by omega) _ rfl (by omega) A l k cap hk hr m hc hl).mono ?_
      rintro e w' ⟨rfl, hp⟩
      obtain ⟨b, v, t, o⟩ := h.put hp
      exact ⟨_, _, rfl, t, hS.put _ hce hl (add_lt hce hS.top' hl hc2) hsl (show who.size ≤ 1000000 by omega) (fun e => by cases e)⟩
    | some n =>
      rw [hl] at hc2
      simp only at hc2
      have hd : n.dir = false := by
        cases hd : n.dir with
        | false => rfl
        | true => rw [if_pos hd] at hc2; cases hc2
      refine (write_set w tb mb M h.ts who s _ rfl (by omega) A l k cap hk hr m hc n hl).mono ?_
      rintro e w' ⟨rfl, v, ho, ht, hg⟩
      exact ⟨_, _, rfl, ⟨ht, none_of h.gr hg (h.b3 _ _ (lookup_in hl)), h.b1, h.b2, b3_turn h.b3 _ (fun _ => rfl)⟩, hS.data h.ts.tr.map.1.1 v hl hd⟩
  · exact (g_write_no h hS.top' (by have := hS.len; omega) who s _ rfl (by omega) A k cap m _ rfl hc).mono fun _ _ hh => ⟨_, M, hh.1, hh.2.1, hS⟩
theorem c_remove (h : TG w0 w tb mb M) (hS : SndM M) (who s : ByteArray) (hs : s.size ≤ 300) :
    Calls Tryd.prog 14 #[.pointer (some ⟨tb, 0, none⟩), .string who, .string s] w fun e w' => ∃ c M', e = .returned (.int .i64 c) ∧ TG w0 w' tb mb M' ∧ SndM M' := by
  have hsl : s.data.toList.length ≤ 300 := hs
  by_cases hc : removeC M who s.data.toList = 0
  · have h1 : s.data.toList ≠ [47] := by
      intro h1
      unfold removeC at hc
      by_cases h2 : (comeR M who s.data.toList).2 ≠ 0
      · rw [if_pos h2] at hc; exact h2 hc
      · rw [if_neg h2, if_pos h1] at hc; cases hc
    by_cases hk : kidsM M s.data.toList = []
    · exact (g_remove_ok h who s _ rfl (by omega) hc (noKid_of hS.slashed hk)).mono fun _ _ hh => ⟨_, _, hh.1, hh.2, hS.del hk h1⟩
    · exact (remove_full w tb mb M h.ts (by have := hS.len; omega) hS.slashed who s _ rfl (by omega) hc hk).mono fun _ _ hh => ⟨_, M, hh.1, h.below hh.2, hS⟩
  · exact (remove_no w tb mb M h.ts who s _ rfl (by omega) hc).mono fun _ _ hh => ⟨_, M, hh.1, h.below hh.2, hS⟩
end
end Go.Proofs.YtmbmahpklkcioaaDoor
