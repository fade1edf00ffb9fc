/- The walks of the two Writes, and of the examples. -/
import Derived.Test.YtajfaplaaafjiaaFrh
import Derived.Lib.SlBytesConst
namespace Go.Proofs.Ytajfaplaaafjiaa
open Go.RowKit

def I64 (x : Int) : Prop := -9223372036854775808 ≤ x ∧ x ≤ 9223372036854775807
theorem OwnB.made (w : World) (base : Nat) (t : TypeId) (cap : Nat) (cs : Array Value) (hs : cs.size = cap) (hb : base ≤ w.heap.size) (hm : cap ≤ maxLen) :
    OwnB (w.alloc (.cells cs t)) base t (.slice (some ⟨w.heap.size, 0, none⟩) 0 cap) [] :=
  ⟨by simp [bcells], .inr ⟨w.heap.size, cap, cs, rfl, hb, heap_alloc_new w _, Nat.zero_le _, hm, by simp [hs], by simp [bcells]⟩⟩

theorem run_makeB (k : Nat) (hk : k ≤ 1000000) (w : World) :
    (Instr.makeSlice 22 (.int .i64 0) (.int .i64 (k : Int))).run Try.prog w = .ok (.slice (some ⟨w.heap.size, 0, none⟩) 0 k) (w.alloc (.cells (madeCells #[.int .u8 0] k) 5)) := by
  obtain ⟨i0, hi, hz0, hz1, hz2⟩ := info_parts byteInfo
  have h := run_make (P := Try.prog) w 22 5 i0 _ Try.underlying22 hi hz0 .i64 .i64 0 k (by omega) (by omega) (by rw [hz2]; omega) (by omega)
  rw [hz1, Int.toNat_natCast, Nat.mul_one] at h
  exact h
set_option maxRecDepth 10000 in
set_option maxHeartbeats 2000000 in
theorem write_any (w : World) (c : Int) (hc : I64 c) (A : Option Addr) (l : List UInt8) (n cap : Nat) (hn : l.length = n) (hr : RB w w.heap.size A l cap) (hl : n ≤ 1000000) :
    Calls Try.prog 12 #[.agg #[.int .i64 c, .slice A n cap]] w fun e w' => ∃ v, e = .returned (.tuple #[v, .int .i64 (wrF (c, l)).2]) ∧ OwnB w' w.heap.size 5 v (wrF (c, l)).1 ∧ w.grownBy w' none := by
  obtain ⟨hc1, hc2⟩ := hc
  have H := Lib.hid hr
  have HN := Lib.hid hn
  clear hr
  by_cases h1 : c < 0
  · have hw : wrF (c, l) = ([], 100) := by unfold wrF; rw [if_pos (.inl h1)]
    rw [hw]
    clear hn hw
    go_enter Try.func12, Try.ntmps12
    go_wp2
    go_ret2
    exact ⟨_, rfl, OwnB.nil_ _ _ _, grown_alloc _ _ _⟩
  by_cases h2 : 4 < c
  · have hw : wrF (c, l) = ([], 100) := by unfold wrF; rw [if_pos (.inr h2)]
    rw [hw]
    clear hn hw
    go_enter Try.func12, Try.ntmps12
    go_wp2
    go_ret2
    exact ⟨_, rfl, OwnB.nil_ _ _ _, grown_alloc _ _ _⟩
  by_cases h3 : 512 < n
  · have hw : wrF (c, l) = ([], 23) := by unfold wrF; rw [if_neg (by simp; omega), if_pos (by simpa [hn] using h3)]
    rw [hw]
    have h3i : (512 : Int) < (n : Int) := by omega
    clear hn hw
    go_enter Try.func12, Try.ntmps12
    go_wp2
    go_ret2
    exact ⟨_, rfl, OwnB.nil_ _ _ _, grown_alloc _ _ _⟩
  · have hw : wrF (c, l) = (frB (c, l), 0) := by unfold wrF; rw [if_neg (by simp; omega), if_neg (by simp [hn]; omega)]
    rw [hw]
    have h3i : ¬ (512 : Int) < (n : Int) := by omega
    have hw1 : IntKind.i64.wrap (3 + (n : Int)) = 3 + (n : Int) := by simp [IntKind.wrap, IntKind.bits, IntKind.signed]; omega
    obtain ⟨k, hk⟩ : ∃ k : Nat, 3 + n = k := ⟨_, rfl⟩
    have hki : 3 + (n : Int) = (k : Int) := by omega
    rw [hki] at hw1
    clear hn hw
    go_enter Try.func12, Try.ntmps12
    have hmk := run_makeB k (by omega)
    have HC4 := Lib.hid (show 0 ≤ c ∧ c ≤ 4 ∧ n ≤ 512 ∧ 3 + n = k by omega)
    have ha := HC4.out
    have FB := Lib.hid (show [UInt8.ofNat c.toNat, UInt8.ofNat (n / 256), UInt8.ofNat n] ++ l = frB (c, l) by unfold frB; rw [HN.out])
    clear hk
    go_wp2_with (first
      | (at_builtin
         refine wpList_appB byteT rfl (.tmp 24) (.tmp 37) rfl (OwnB.alloc (OwnB.made _ w.heap.size 5 k _ (size_madeCells _ _) (by simp) (by unfold maxLen; omega)) _) (RB.new3 _ _ (UInt8.ofNat c.toNat) (UInt8.ofNat (n / 256)) (UInt8.ofNat n) _ _ _ ?ga ?gb ?gc _ (Nat.lt_succ_self _)) (by first | rfl | go_simp) (by first | rfl | go_simp) ?gd ?ge ?_
         rotate_left 5
         intro v2 w2 hown2 hg2 _ hat2
         have O2 := Lib.hid hown2
         have B2 := Lib.hid ((((((Below.refl w.heap.size w).alloc (Nat.le_refl _) _).alloc (by simp only [World.size_alloc]; omega) _).alloc (by simp only [World.size_alloc]; omega) _).grown hg2 (by simp only [World.size_alloc]; omega) (fun k hk => by simp [Value.ownBlock] at hk; omega)))
         have e3 := hg2.cell (a := ⟨w.heap.size, 1, none⟩) (cell_alloc (cell_alloc (cell_of_row _ w.heap.size 1 #[.int .i64 c, .slice A n cap] 24 (0, 0) (heap_alloc_new w _)) _) _) (fun he => by simp [Value.ownBlock] at he)
         clear hown2 hg2 hat2)
      | (at_builtin
         refine wpList_appB byteT rfl (.tmp 39) (.tmp 41) rfl O2.out (H.out.below B2.out) (by first | rfl | go_simp) (by rw [HN.out]; first | rfl | go_simp) ?gd2 ?ge2 ?_
         rotate_left 2
         intro v3 w3 hown3 hg3 _ hat3
         have O3 := Lib.hid hown3
         have B3 := Lib.hid (B2.out.grown hg3 B2.out.size (fun k hk => (O2.out.lt k hk).1))
         clear hown3 hg3 hat3))
    go_ret2
    exact ⟨_, rfl, by rw [← FB.out]; simpa using O3.out, none_of_below B3.out (Nat.le_refl _)⟩
    all_goals first
      | exact u8_of (by omega)
      | exact u8_of (by rw [Nat.mod_eq_of_lt (by omega)]; rfl)
      | (simp; done)
      | (simp only [World.size_alloc]; omega)
      | (have := HN.out; simp only [List.length_append, List.length_cons, List.length_nil]; omega)
      | (have := HN.out; omega)
      | (simp only [List.length_nil]; omega)
      | exact B2.out.size

set_option maxRecDepth 10000 in
set_option maxHeartbeats 2000000 in
theorem refWrite_any (w : World) (c : Int) (hc : I64 c) (A : Option Addr) (l : List UInt8) (n cap : Nat) (hn : l.length = n) (hr : RB w w.heap.size A l cap) (hl : n ≤ 1000000) :
    Calls Try.prog 13 #[.agg #[.int .i64 c, .slice A n cap]] w fun e w' => ∃ v, e = .returned (.tuple #[v, .int .i64 (wrF (c, l)).2]) ∧ OwnB w' w.heap.size 5 v (wrF (c, l)).1 ∧ w.grownBy w' none := by
  obtain ⟨hc1, hc2⟩ := hc
  have H := Lib.hid hr
  have HN := Lib.hid hn
  clear hr
  by_cases h1 : c < 0
  · have hw : wrF (c, l) = ([], 100) := by unfold wrF; rw [if_pos (.inl h1)]
    rw [hw]
    clear hn hw
    go_enter Try.func13, Try.ntmps13
    go_wp2
    go_ret2
    exact ⟨_, rfl, by have := OwnB.new0 (w.alloc (.cells #[.int .i64 c, .slice A n cap] 24)) w.heap.size 5 (by simp); rw [World.size_alloc] at this; exact this, grown_trans' (grown_alloc _ _ _) (grown_alloc _ _ _)⟩
  by_cases h2 : 4 < c
  · have hw : wrF (c, l) = ([], 100) := by unfold wrF; rw [if_pos (.inr h2)]
    rw [hw]
    clear hn hw
    go_enter Try.func13, Try.ntmps13
    go_wp2
    go_ret2
    exact ⟨_, rfl, by have := OwnB.new0 (w.alloc (.cells #[.int .i64 c, .slice A n cap] 24)) w.heap.size 5 (by simp); rw [World.size_alloc] at this; exact this, grown_trans' (grown_alloc _ _ _) (grown_alloc _ _ _)⟩
  by_cases h3 : 512 < n
  · have hw : wrF (c, l) = ([], 23) := by unfold wrF; rw [if_neg (by simp; omega), if_pos (by simpa [hn] using h3)]
    rw [hw]
    have h3i : (512 : Int) < (n : Int) := by omega
    clear hn hw
    go_enter Try.func13, Try.ntmps13
    go_wp2
    go_ret2
    exact ⟨_, rfl, by have := OwnB.new0 (w.alloc (.cells #[.int .i64 c, .slice A n cap] 24)) w.heap.size 5 (by simp); rw [World.size_alloc] at this; exact this, grown_trans' (grown_alloc _ _ _) (grown_alloc _ _ _)⟩
  · have hw : wrF (c, l) = (frB (c, l), 0) := by unfold wrF; rw [if_neg (by simp; omega), if_neg (by simp [hn]; omega)]
    rw [hw]
    have h3i : ¬ (512 : Int) < (n : Int) := by omega
    have HC4 := Lib.hid (show 0 ≤ c ∧ c ≤ 4 ∧ n ≤ 512 by omega)
    have ha := HC4.out
    have FB := Lib.hid (show [UInt8.ofNat c.toNat, UInt8.ofNat (n / 256), UInt8.ofNat n] ++ l = frB (c, l) by unfold frB; rw [HN.out])
    clear hn hw
    go_enter Try.func13, Try.ntmps13
    go_wp2_with (at_builtin
                 refine wpList_appB byteT rfl (.tmp 33) (.tmp 35) rfl (l := [UInt8.ofNat c.toNat, UInt8.ofNat (n / 256), UInt8.ofNat n]) (OwnB.new3 _ w.heap.size 5 _ _ _ _ _ _ ?ga ?gb ?gc ?ge) (H.out.below (((Below.refl w.heap.size w).alloc (Nat.le_refl _) _).alloc (by simp only [World.size_alloc]; omega) _)) (by first | rfl | go_simp) (by rw [HN.out]; first | rfl | go_simp) ?gd ?gf ?_
                 rotate_left 6
                 intro v3 w3 hown3 hg3 _ hat3
                 have O3 := Lib.hid hown3
                 have B3 := Lib.hid ((((Below.refl w.heap.size w).alloc (Nat.le_refl _) _).alloc (by simp only [World.size_alloc]; omega) _).grown hg3 (by simp only [World.size_alloc]; omega) (fun k hk => by simp [Value.ownBlock] at hk; omega))
                 clear hown3 hg3 hat3)
    go_ret2
    exact ⟨_, rfl, by rw [← FB.out]; exact O3.out, none_of_below B3.out (Nat.le_refl _)⟩
    all_goals first
      | exact u8_of (by omega)
      | exact u8_of (by rw [Nat.mod_eq_of_lt (by omega)]; rfl)
      | (simp; done)
      | (simp only [World.size_alloc]; omega)
      | (have := HN.out; omega)
      | (have := HN.out; simp only [List.length_append, List.length_cons, List.length_nil]; omega)
      | (trace_state; fail)
end Go.Proofs.Ytajfaplaaafjiaa
