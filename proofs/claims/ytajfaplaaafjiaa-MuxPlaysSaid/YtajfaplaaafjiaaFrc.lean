/- The walks of what a Reader is asked. -/
import Derived.Test.YtajfaplaaafjiaaFrb
import Derived.Deep.QuietTactic
import Derived.Lib.SliceRun
namespace Go.Proofs.Ytajfaplaaafjiaa
open Go.RowKit

theorem below_rw {B : Nat} {w w' : World} (h : w.grownBy w' none) (hB : B ≤ w.heap.size) : Below B w w' := ⟨h.os, h.tape, h.output, h.size, fun i hi => h.block i (Nat.lt_of_lt_of_le hi hB) (fun e => by cases e)⟩

set_option maxHeartbeats 400000 in
theorem clone_any (A : Option Addr) (l : List UInt8) (cap n : Nat) (w : World) (hn : l.length = n) (h : RB w w.heap.size A l cap) (hl : n ≤ 140737488355328) :
    Calls Try.prog 57 #[.slice A n cap] w fun e w' => ∃ A' c, e = .returned (.slice A' n c) ∧ OwnB w' w.heap.size 5 (.slice A' n c) l ∧ Below w.heap.size w w' := by
  subst hn
  have hl2 : l.length ≤ 9223372036854775807 := by omega
  have hne := fun wx => Lib.run_eql_slice_nil (P := Try.prog) wx 22 5 A l.length cap 0 0 Try.underlying22
  cases A with
  | none =>
    have h0 : cap = 0 ∧ l = [] := by
      obtain ⟨h1, h2, h3⟩ := h
      rcases h3 with ⟨_, h3⟩ | ⟨a, ha, _⟩
      · exact ⟨h3, List.eq_nil_of_length_eq_zero (by omega)⟩
      · cases ha
    obtain ⟨rfl, rfl⟩ := h0
    clear h hne
    have hne := fun wx => Lib.run_eql_slice_nil (P := Try.prog) wx 22 5 none 0 0 0 0 Try.underlying22
    go_enter Try.func57, Try.ntmps57
    go_wp2
    go_ret
    exact ⟨_, _, rfl, OwnB.nil_ _ _ _, Below.refl _ _⟩
  | some a =>
    have H := Lib.hid h
    clear h
    go_enter Try.func57, Try.ntmps57
    go_wp2_with (at_builtin; refine wpList_appB byteT rfl (.tmp 5) (.tmp 6) rfl (OwnB.new0 _ w.heap.size _ (Nat.le_refl _)) (H.out.alloc (Nat.le_refl _) _) rfl rfl (by simp; omega) (by simp) ?_; intro v' w' hown' hg' _ hat')
    rw [List.nil_append] at hown'
    obtain ⟨A', c, rfl, hr, -⟩ := hown'.shape
    go_ret
    exact ⟨A', c, rfl, hown', ((Below.refl _ _).alloc (Nat.le_refl _) _).grown hg' (by simp) (fun k hk => by simp [Value.ownBlock] at hk; omega)⟩

theorem newReader_any (w : World) : Calls Try.prog 14 #[] w fun e w' => e = .returned (.pointer (some ⟨w.heap.size, 0, none⟩)) ∧ RD w' w.heap.size w.heap.size (.slice none 0 0) [] 0 ∧ w.grownBy w' none := by
  go_enter Try.func14, Try.ntmps14
  go_wp2
  go_ret
  exact ⟨rfl, ⟨Nat.le_refl _, CB.new w 80 [.slice none 0 0, .int .i64 0], OwnB.nil_ _ _ _⟩, grown_alloc _ _ _⟩

theorem rest_any (w : World) (base r : Nat) (v : Value) (part : List UInt8) (e : Int) (h : RD w base r v part e) :
    Calls Try.prog 17 #[.pointer (some ⟨r, 0, none⟩)] w fun e w' => e = .returned (.int .i64 part.length) ∧ w' = w := by
  obtain ⟨A, cap, rfl, hr, -⟩ := h.2.2.shape
  have c0 : w.cell? ⟨r, 0, none⟩ = some (.slice A part.length cap) := h.2.1.at_ rfl
  obtain ⟨n, hn⟩ : ∃ n, part.length = n := ⟨_, rfl⟩
  rw [hn] at c0 ⊢
  clear h hr hn
  go_enter Try.func17, Try.ntmps17
  go_wp2
  go_ret
  exact ⟨rfl, rfl⟩

/-- Nothing but the order of operations was drawn. -/
def Dr (w w' : World) : Prop := ∃ m, w' = w.drewN m
theorem Dr.refl (w : World) : Dr w w := ⟨0, rfl⟩
theorem Dr.made {w w' : World} (h : Dr w w') (r : Option Nat) : w.grownBy w' r := by obtain ⟨m, rfl⟩ := h; exact ⟨rfl, rfl, rfl, Nat.le_refl _, fun _ _ _ => rfl⟩
theorem Dr.trans {a b c : World} (h : Dr a b) (k : Dr b c) : Dr a c := by
  obtain ⟨m, rfl⟩ := h
  obtain ⟨n, rfl⟩ := k
  exact ⟨m + n, World.drewN_drewN _ _ _⟩
theorem RD.dr {w w' : World} {base r : Nat} {v : Value} {part : List UInt8} {e : Int} (h : RD w base r v part e) (k : Dr w w') : RD w' base r v part e := h.made (k.made none)

set_option maxHeartbeats 1000000 in
theorem length_any (w : World) (base r : Nat) (v : Value) (part : List UInt8) (e : Int) (h : RD w base r v part e) (h3 : 3 ≤ part.length) :
    Calls Try.prog 56 #[.pointer (some ⟨r, 0, none⟩)] w fun e w' => e = .returned (.int .i64 (bodyN part)) ∧ Dr w w' := by
  obtain ⟨A, cap, rfl, hr, -⟩ := h.2.2.shape
  have c0 : w.cell? ⟨r, 0, none⟩ = some (.slice A part.length cap) := h.2.1.at_ rfl
  obtain ⟨b, off, rfl, hb, hc⟩ := hr.open_ (by omega)
  obtain ⟨y1, hy1⟩ : ∃ y, y = part[1] := ⟨_, rfl⟩
  obtain ⟨y2, hy2⟩ : ∃ y, y = part[2] := ⟨_, rfl⟩
  have hc1 := hc 1 (by omega)
  have hc2 := hc 2 (by omega)
  have hg1 : part.getD 1 0 = part[1] := by simp [List.getD, List.getElem?_eq_getElem (show 1 < part.length by omega)]
  have hg2 : part.getD 2 0 = part[2] := by simp [List.getD, List.getElem?_eq_getElem (show 2 < part.length by omega)]
  rw [← hy1] at hc1 hg1
  rw [← hy2] at hc2 hg2
  have hbn : (bodyN part : Int) = (y1.toNat : Int) * 256 + (y2.toNat : Int) := by unfold bodyN; rw [hg1, hg2]; omega
  have hx1 := y1.toNat_lt
  have hx2 := y2.toNat_lt
  have h1i : (1 : Int) < (part.length : Int) := by omega
  have h2i : (2 : Int) < (part.length : Int) := by omega
  have ho := or_byte ((y1.toNat : Int) * 256) (y2.toNat : Int) (by omega) (by omega) (by omega) (by omega) (by omega)
  clear h hr hb hc hg1 hg2 hy1 hy2 h3
  rw [hbn]
  clear hbn
  generalize y1.toNat = x1 at *
  generalize y2.toNat = x2 at *
  generalize part.length = n at *
  go_enter Try.func56, Try.ntmps56
  go_wp2
  go_quiet (fail)
  go_wp2
  go_ret
  exact ⟨rfl, nq, rfl⟩

/-- How many bytes must come yet. -/
def lacksN (p : List UInt8) : Int := if p.length < 3 then 3 - (p.length : Int) else 3 + (bodyN p : Int) - (p.length : Int)
/-- What is wrong. -/
def faultN (p : List UInt8) : Int := if 4 < (p.headD 0).toNat then 100 else if 3 ≤ p.length ∧ 512 < bodyN p then 23 else 0

set_option maxHeartbeats 1000000 in
theorem lacks_any (w : World) (base r : Nat) (v : Value) (part : List UInt8) (e : Int) (h : RD w base r v part e) (hl : part.length ≤ 1000000000) :
    Calls Try.prog 42 #[.pointer (some ⟨r, 0, none⟩)] w fun e w' => e = .returned (.int .i64 (lacksN part)) ∧ Dr w w' := by
  have HL := Lib.hid (fun n h3 => length_any (w.drewN n) base r v part e (h.dr ⟨n, rfl⟩) h3)
  obtain ⟨A, cap, rfl, hr, -⟩ := h.2.2.shape
  have c0 : w.cell? ⟨r, 0, none⟩ = some (.slice A part.length cap) := h.2.1.at_ rfl
  have hbl := bodyN_lt part
  by_cases h3 : part.length < 3
  · have hi : lacksN part = 3 - (part.length : Int) := by unfold lacksN; rw [if_pos h3]
    rw [hi]
    have h3i : (part.length : Int) < 3 := by omega
    clear h hr hi HL
    generalize part.length = n at *
    have hw : IntKind.i64.wrap (3 - (n : Int)) = 3 - (n : Int) := by simp [IntKind.wrap, IntKind.bits, IntKind.signed]; omega
    go_enter Try.func42, Try.ntmps42
    go_wp2
    go_ret
    exact ⟨rfl, Dr.refl _⟩
  · have hi : lacksN part = 3 + (bodyN part : Int) - (part.length : Int) := by unfold lacksN; rw [if_neg h3]
    rw [hi]
    have h3i : ¬ ((part.length : Int) < 3) := by omega
    have HL2 := Lib.hid (fun n => HL.out n (by omega))
    clear h hr hi HL
    generalize part.length = n at *
    generalize bodyN part = m at *
    have hw1 : IntKind.i64.wrap (3 + (m : Int)) = 3 + (m : Int) := by simp [IntKind.wrap, IntKind.bits, IntKind.signed]; omega
    have hw2 : IntKind.i64.wrap (3 + (m : Int) - (n : Int)) = 3 + (m : Int) - (n : Int) := by simp [IntKind.wrap, IntKind.bits, IntKind.signed]; omega
    go_enter Try.func42, Try.ntmps42
    go_wp2
    go_quiet ((go_at_call 56; with_reducible exact Calls.quiet_of (HL2.out _)))
    go_wp2
    go_ret
    exact ⟨rfl, nq, rfl⟩

set_option maxHeartbeats 1000000 in
theorem fault_any (w : World) (base r : Nat) (v : Value) (part : List UInt8) (e : Int) (h : RD w base r v part e) (hl : part.length ≤ 1000000000) (hp : 0 < part.length) :
    Calls Try.prog 43 #[.pointer (some ⟨r, 0, none⟩)] w fun e w' => e = .returned (.int .i64 (faultN part)) ∧ Dr w w' := by
  have HL := Lib.hid (fun n h3 => length_any (w.drewN n) base r v part e (h.dr ⟨n, rfl⟩) h3)
  obtain ⟨A, cap, rfl, hr, -⟩ := h.2.2.shape
  have c0 : w.cell? ⟨r, 0, none⟩ = some (.slice A part.length cap) := h.2.1.at_ rfl
  obtain ⟨b, off, rfl, hb, hc⟩ := hr.open_ hp
  have hc0 := hc 0 hp
  rw [Nat.add_zero] at hc0
  have hd0 : part.headD 0 = part[0] := by cases part with | nil => simp at hp | cons x l => rfl
  obtain ⟨y0, hy0⟩ : ∃ y, y = part[0] := ⟨_, rfl⟩
  rw [← hy0] at hc0 hd0
  have hpi : (0 : Int) < (part.length : Int) := by omega
  have hx0 := y0.toNat_lt
  have hbl := bodyN_lt part
  by_cases h4 : 4 < y0.toNat
  · have hi : faultN part = 100 := by unfold faultN; rw [hd0, if_pos h4]
    rw [hi]
    have h4i : (4 : Int) < (y0.toNat : Int) := by omega
    clear h hr hi HL hc hd0 hy0 hb
    generalize y0.toNat = x0 at *
    generalize part.length = n at *
    go_enter Try.func43, Try.ntmps43
    go_wp2
    go_ret
    exact ⟨rfl, Dr.refl _⟩
  have h4i : ¬ (4 : Int) < (y0.toNat : Int) := by omega
  by_cases h3 : part.length < 3
  · have hi : faultN part = 0 := by unfold faultN; rw [hd0, if_neg h4, if_neg (by omega)]
    rw [hi]
    have h3i : ¬ (3 : Int) ≤ (part.length : Int) := by omega
    clear h hr hi HL hc hd0 hy0 hb
    generalize y0.toNat = x0 at *
    generalize part.length = n at *
    go_enter Try.func43, Try.ntmps43
    go_wp2
    go_ret
    exact ⟨rfl, Dr.refl _⟩
  have h3i : (3 : Int) ≤ (part.length : Int) := by omega
  have HL2 := Lib.hid (fun n => HL.out n (by omega))
  by_cases h5 : 512 < bodyN part
  · have hi : faultN part = 23 := by unfold faultN; rw [hd0, if_neg h4, if_pos ⟨by omega, h5⟩]
    rw [hi]
    have h5i : (512 : Int) < (bodyN part : Int) := by omega
    clear h hr hi HL hc hd0 hy0 hb
    generalize y0.toNat = x0 at *
    generalize part.length = n at *
    generalize bodyN part = m at *
    go_enter Try.func43, Try.ntmps43
    go_wp2_with (go_at_call 56; refine (HL2.out 0).mono ?_; rintro e w1 ⟨rfl, d1⟩)
    go_ret
    exact ⟨rfl, d1⟩
  · have hi : faultN part = 0 := by unfold faultN; rw [hd0, if_neg h4, if_neg (by omega)]
    rw [hi]
    have h5i : ¬ (512 : Int) < (bodyN part : Int) := by omega
    clear h hr hi HL hc hd0 hy0 hb
    generalize y0.toNat = x0 at *
    generalize part.length = n at *
    generalize bodyN part = m at *
    go_enter Try.func43, Try.ntmps43
    go_wp2_with (go_at_call 56; refine (HL2.out 0).mono ?_; rintro e w1 ⟨rfl, d1⟩)
    go_ret
    exact ⟨rfl, d1⟩
end Go.Proofs.Ytajfaplaaafjiaa
