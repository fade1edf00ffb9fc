/- bytes.TrimLeft of noughts; seal's narrow. -/
import Derived.Test.YthgejidimnbplaaGreatDoorSeb
import Derived.WalkSpells
namespace Go.Proofs.YthgejidimnbplaaGreatDoor
open Go.RowKit Go.Maps

/-- What is left behind the noughts that are ahead. -/
def tz (l : List UInt8) : List UInt8 := l.dropWhile ([(0 : UInt8)].contains ·)
theorem tz_zero (l : List UInt8) : tz (0 :: l) = tz l := rfl
theorem tz_other {u : UInt8} (l : List UInt8) (h : u ≠ 0) : tz (u :: l) = u :: l := by
  unfold tz
  rw [List.dropWhile_cons, if_neg (by simp [h])]
theorem tz_len (l : List UInt8) : (tz l).length ≤ l.length := by unfold tz; exact List.dropWhile_sublist _ |>.length_le
set_option maxHeartbeats 1000000 in
theorem trimByte_any (A : Option Addr) (l : List UInt8) (cap n : Nat) (w : World) (hn : l.length = n) (h : RB w w.heap.size A l cap) (hl : n ≤ 1000000000) :
    Calls Tryz.prog 61 #[.slice A n cap, .int .u8 0] w fun e w' => ∃ A' c', e = .returned (.slice A' (tz l).length c') ∧ RB w w.heap.size A' (tz l) c' ∧ w = w' := by
  subst hn
  have H := Lib.hid h
  clear h
  go_enter Tryz.func61, Tryz.ntmps61
  go_wp2
  go_loop [0] (fun v => ∃ (A' : Option Addr) (m : List UInt8) (c' : Nat), v = .slice A' m.length c' ∧ RB w w.heap.size A' m c' ∧ tz m = tz l ∧ m.length ≤ 1000000000) (fun v => match v with | .slice _ k _ => k | _ => 0)
  case atStart => exact ⟨A, l, cap, rfl, H.out, rfl, hl⟩
  case round =>
    obtain ⟨A', m, c', rfl, hr, ht, hm⟩ := hrel
    have HT := Lib.hid ht
    cases m with
    | nil =>
      clear hr ht hl
      simp only [List.length_nil]
      go_wp2
      go_ret
      exact ⟨none, 0, by rw [← HT.out]; rfl, by rw [← HT.out]; exact RB.nil_ _ _, rfl⟩
    | cons u m =>
      obtain ⟨b, off, hA, -, hcell⟩ := hr.open_ (by simp)
      subst hA
      have HR := Lib.hid hr
      have q : w.cell? ⟨b, off + 0, none⟩ = some (.int .u8 (u.toNat : Int)) := hcell 0 (by simp)
      have hcap := hr.1
      obtain ⟨k, hk⟩ : ∃ k, (u :: m).length = k := ⟨_, rfl⟩
      have hkm : m.length = k - 1 := by rw [← hk]; simp
      have hkp : 0 < k := by rw [← hk]; simp
      have HK := Lib.hid hk
      have HKM := Lib.hid hkm
      rw [hk] at hcap hm ⊢
      have hk0 : ¬ k = 0 := by omega
      have hki : (k : Int) ≤ 1000000000 := by omega
      simp only [Nat.add_zero] at q
      by_cases hu : u = 0
      · subst hu
        have HTM := Lib.hid (show tz m = tz l from ht)
        have HC := Lib.hid (hr.cut (k := 1) (by simp))
        by_cases hc1 : c' = 1
        · subst hc1
          clear hr ht hcell hk hkm
          go_wp2
          exact ⟨⟨some ⟨b, off, none⟩, m, 0, by rw [show m.length = 0 by have := HKM.out; omega], by have := HC.out; simpa using this, HTM.out, by have := HKM.out; omega⟩, by show 0 < k; omega⟩
        · have HCN := Lib.hid hc1
          have hc1b : ¬ 1 = c' := fun e => hc1 e.symm
          clear hr ht hcell hk hkm
          go_wp2
          exact ⟨⟨some ⟨b, off + 1, none⟩, m, c' - 1, by rw [HKM.out], by have := HC.out; rw [if_neg HCN.out] at this; exact this, HTM.out, by have := HKM.out; omega⟩, by show k - 1 < k; omega⟩
      · have HE := Lib.hid (show tz l = u :: m by rw [← ht]; exact tz_other m hu)
        have huz : ((u.toNat : Int) == 0) = false := by
          have : u.toNat ≠ 0 := fun e => hu (UInt8.toNat_inj.1 e)
          simpa using this
        have hun : (u.toNat : Int) ≠ 0 := by simpa using huz
        clear hr ht hcell hk hkm hu
        go_wp2
        go_ret
        exact ⟨some ⟨b, off, none⟩, c', by rw [HE.out, HK.out]; rfl, by rw [HE.out]; exact HR.out, rfl⟩
set_option maxRecDepth 10000 in
theorem trimLeft_any (A : Option Addr) (l : List UInt8) (cap n : Nat) (w : World) (hn : l.length = n) (h : RB w w.heap.size A l cap) (hp : 0 < n) (hl : n ≤ 1000000000) :
    Calls Tryz.prog 48 #[.slice A n cap, .string ⟨#[0]⟩] w fun e w' => ∃ A' c', e = .returned (.slice A' (tz l).length c') ∧ RB w w.heap.size A' (tz l) c' ∧ w = w' := by
  have HT := Lib.hid (trimByte_any A l cap n w hn h hl)
  have hn0 : ¬ n = 0 := by omega
  have hnz : (n == 0) = false := by simpa using hn0
  have hnb : ((n : Int) == 0) = false := by simp; omega
  clear h hn
  go_enter Tryz.func48, Tryz.ntmps48
  go_wp2_with (go_at_call 61; refine HT.out.mono ?_; rintro e w' ⟨A', c', rfl, hr, rfl⟩; have HR := Lib.hid hr; clear hr)
  go_ret
  exact ⟨A', c', rfl, HR.out, rfl⟩
set_option maxRecDepth 10000 in
theorem narrow_any (A : Option Addr) (l : List UInt8) (cap : Nat) (w : World) (hn : l.length = 8) (h : RB w w.heap.size A l cap) :
    Calls Tryz.prog 35 #[.slice A 8 cap] w fun e w' => e = .returned (.int .u64 (numOf l)) ∧ w = w' := by
  have HT := Lib.hid (trimLeft_any A l cap 8 w hn h (by omega) (by omega))
  have HRD := Lib.hid (show readOf (tz l) = (numOf l, true) from trim_read hn)
  clear h hn
  go_enter Tryz.func35, Tryz.ntmps35
  go_wp2_with (first
    | (go_at_call 48; refine HT.out.mono ?_; rintro e w' ⟨A', c', rfl, hr, rfl⟩; have HR := Lib.hid hr; clear hr)
    | (go_at_call 47; refine (read_any A' (tz l) c' _ _ HR.out).mono ?_; rw [HRD.out]; rintro e w' ⟨rfl, rfl⟩))
  go_ret
  exact ⟨rfl, rfl⟩

set_option maxHeartbeats 400000 in
theorem qclone_any (A : Option Addr) (l : List UInt8) (cap n : Nat) (w : World) (hn : l.length = n) (h : RB w w.heap.size A l cap) (hl : n ≤ 140737488355328) :
    Calls Tryz.prog 17 #[.slice A n cap] w fun e w' => ∃ A' c, e = .returned (.slice A' n c) ∧ OwnB w' w.heap.size 5 (.slice A' n c) l ∧ Below w.heap.size w w' := by
  subst hn
  have hl2 : l.length ≤ 9223372036854775807 := by omega
  have hne := fun wx => Lib.run_eql_slice_nil (P := Tryz.prog) wx 30 5 A l.length cap 0 0 Tryz.underlying30
  cases A with
  | none =>
    have h0 : cap = 0 ∧ l = [] := by
      obtain ⟨h1, h2, h3⟩ := h
      rcases h3 with ⟨_, h3⟩ | ⟨a, ha, _⟩
      · exact ⟨h3, List.eq_nil_of_length_eq_zero (by omega)⟩
      · cases ha
    obtain ⟨rfl, rfl⟩ := h0
    clear h hne
    have hne := fun wx => Lib.run_eql_slice_nil (P := Tryz.prog) wx 30 5 none 0 0 0 0 Tryz.underlying30
    go_enter Tryz.func17, Tryz.ntmps17
    go_wp2
    go_ret
    exact ⟨_, _, rfl, OwnB.nil_ _ _ _, Below.refl _ _⟩
  | some a =>
    have H := Lib.hid h
    clear h
    go_enter Tryz.func17, Tryz.ntmps17
    go_wp2_with (at_builtin; refine wpList_appB byteT rfl (.tmp 5) (.tmp 6) rfl (OwnB.new0 _ w.heap.size _ (Nat.le_refl _)) (H.out.alloc (Nat.le_refl _) _) rfl rfl (by simp; omega) (by simp) ?_; intro v' w' hown' hg' _ hat')
    rw [List.nil_append] at hown'
    obtain ⟨A', c, rfl, hr, -⟩ := hown'.shape
    go_ret
    exact ⟨A', c, rfl, hown', ((Below.refl _ _).alloc (Nat.le_refl _) _).grown hg' (by simp) (fun k hk => by simp [Value.ownBlock] at hk; omega)⟩

end Go.Proofs.YthgejidimnbplaaGreatDoor
