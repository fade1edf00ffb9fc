/- The walks of what a terminal does with a byte: show, drop, add. -/
import Derived.Test.YtbkaabimafipoaaPtm
namespace Go.Proofs.Ytbkaabimafipoaa
open Go.ChangeShapes Go.WideShapes Go.RowKit

theorem szS : (Try.prog.info? 30).map (·.size) = some 1 := by kernel_rfl
theorem szSS : (Try.prog.info? 31).map (·.size) = some 1 := by kernel_rfl

section
variable {w : World} {base b2 p t : Nat} {v sv lv : Value} {s : Tm} {sh : List UInt8} {ls : List (List UInt8)}
set_option maxHeartbeats 1000000 in
theorem show_any (h : PX w base b2 p t v sv lv s sh ls) (hb : b2 ≤ w.heap.size) (hsh : sh.length ≤ 1000000000) (A : Option Addr) (l : List UInt8) (n cap : Nat) (hn : l.length = n) (hr : RB w w.heap.size A l cap) (hl : n ≤ 1000) :
    Calls Try.prog 16 #[.pointer (some ⟨t, 0, none⟩), .slice A n cap] w fun e w' => e = .returned (.tuple #[]) ∧ PR w w' base b2 p t v sv lv s (sh ++ l) ls := by
  subst hn
  have H := Lib.hid h
  have HR := Lib.hid hr
  have HT := Lib.hid h.td.2.2.1
  have k0 : w.cell? ⟨t, 0, none⟩ = some sv := h.td.2.1.at_ rfl
  have C0 := Lib.hid h.td.2.1
  clear h hr
  go_enter Try.func16, Try.ntmps16
  go_wp2_with (first
    | (at_builtin; refine wpList_appB byteT rfl (.tmp 8) (.tmp 9) rfl HT.out HR.out (by first | rfl | go_simp) rfl (by omega) hb ?_; intro v2 w2 o2 g2 _ a2; have O2 := Lib.hid o2; have G2 := Lib.hid g2; have A2 := Lib.hid a2; have C2 := Lib.hid (C0.out.mod (Mod.of_grown g2) (fun e => HT.out.ne_cells C0.out (by decide) e.symm)); clear o2 g2 a2)
    | (refine wpList_storeC (off := 0) (p := [v2]) szS rfl (.tmp 12) (.tmp 10) rfl v2 (by obtain ⟨_, _, hx, _⟩ := O2.out.shape; rw [hx]; rfl) (fun u hu => by rw [List.mem_singleton.1 hu]; obtain ⟨_, _, hx, _⟩ := O2.out.shape; rw [hx]; rfl) C2.out rfl (by simp) (by first | rfl | go_simp) rfl ?_; intro w3 h3 g3; have C3 := Lib.hid h3; have G3 := Lib.hid g3; clear h3 g3))
  go_end0
  have hne : ∀ g, v2.ownBlock = some g → g ≠ t := fun g hg e => by subst e; exact O2.out.ne_cells C2.out (by decide) hg
  have hlt : t < w.heap.size := C0.out.lt
  refine ⟨rfl, H.out.setT (((Mod.of_grown G2.out).mono (fun k _ hk => .inr (.inl hk.symm))).grown G3.out (fun z hz _ => .inl (by injection hz with hz; exact hz.symm))) (sv' := v2) (lv' := lv) ⟨H.out.td.1, C3.out, O2.out.mod (Mod.of_grown G3.out) (fun g hg e => hne g hg (by injection e)), (H.out.td.2.2.2.mod (Mod.of_grown G2.out) (fun g hg e => own_nes HT.out H.out.td.2.2.2 g e.symm hg)).mod (Mod.of_grown G3.out) (fun g hg e => ?_)⟩ (Nw.of A2.out (Nat.le_refl _)) (Nw.refl _ _)⟩
  injection e with e
  subst e
  exact H.out.td.2.2.2.ne_cells C0.out (by decide) hg

theorem grown_drew' {w w' : World} {r : Option Nat} (h : w.drew.grownBy w' r) : w.grownBy w' r := ⟨h.os, h.tape, h.output, h.size, h.block⟩
/-- What the rows that are built hold. -/
theorem rb1 (w : World) (t : TypeId) (u : UInt8) (x : Int) (hx : x = (u.toNat : Int)) : RB (w.alloc (.cells #[.int .u8 x] t)) (w.alloc (.cells #[.int .u8 x] t)).heap.size (some ⟨w.heap.size, 0, none⟩) [u] 1 := RB.new1 w t u x hx _ (by rw [World.size_alloc]; omega)
theorem rb2 (w : World) (t : TypeId) (u1 u2 : UInt8) (x1 x2 : Int) (h1 : x1 = (u1.toNat : Int)) (h2 : x2 = (u2.toNat : Int)) : RB (w.alloc (.cells #[.int .u8 x1, .int .u8 x2] t)) (w.alloc (.cells #[.int .u8 x1, .int .u8 x2] t)).heap.size (some ⟨w.heap.size, 0, none⟩) [u1, u2] 2 := by
  subst h1 h2
  exact RB.new w t [u1, u2] (by simp [maxLen]) _ (by rw [World.size_alloc]; omega)
theorem rb3 (w : World) (t : TypeId) (u1 u2 u3 : UInt8) (x1 x2 x3 : Int) (h1 : x1 = (u1.toNat : Int)) (h2 : x2 = (u2.toNat : Int)) (h3 : x3 = (u3.toNat : Int)) : RB (w.alloc (.cells #[.int .u8 x1, .int .u8 x2, .int .u8 x3] t)) (w.alloc (.cells #[.int .u8 x1, .int .u8 x2, .int .u8 x3] t)).heap.size (some ⟨w.heap.size, 0, none⟩) [u1, u2, u3] 3 := by
  subst h1 h2 h3
  exact RB.new w t [u1, u2, u3] (by simp [maxLen]) _ (by rw [World.size_alloc]; omega)
theorem rb4 (w : World) (t : TypeId) (u1 u2 u3 u4 : UInt8) (x1 x2 x3 x4 : Int) (h1 : x1 = (u1.toNat : Int)) (h2 : x2 = (u2.toNat : Int)) (h3 : x3 = (u3.toNat : Int)) (h4 : x4 = (u4.toNat : Int)) : RB (w.alloc (.cells #[.int .u8 x1, .int .u8 x2, .int .u8 x3, .int .u8 x4] t)) (w.alloc (.cells #[.int .u8 x1, .int .u8 x2, .int .u8 x3, .int .u8 x4] t)).heap.size (some ⟨w.heap.size, 0, none⟩) [u1, u2, u3, u4] 4 := by
  subst h1 h2 h3 h4
  exact RB.new w t [u1, u2, u3, u4] (by simp [maxLen]) _ (by rw [World.size_alloc]; omega)
theorem PX.alloc (h : PX w base b2 p t v sv lv s sh ls) (o : Obj) : PX (w.alloc o) base b2 p t v sv lv s sh ls := h.made (grown_alloc _ _ _)
/-- Made memory, then a call. -/
theorem prA {s' : Tm} {sh' : List UInt8} {ls' : List (List UInt8)} {w2 : World} (o : Obj) (k : PR (w.alloc o) w2 base b2 p t v sv lv s' sh' ls') : PR w w2 base b2 p t v sv lv s' sh' ls' := by
  obtain ⟨v', sv', lv', hx, hm, n1, n2, n3⟩ := k
  have hs : w.heap.size ≤ (w.alloc o).heap.size := by rw [World.size_alloc]; omega
  exact ⟨v', sv', lv', hx, (Mod.made (S := pxS p t v sv lv) (grown_alloc w o none)).next hm (fun _ _ e => e), (Nw.refl _ _).trans n1 hs, (Nw.refl _ _).trans n2 hs, (Nw.refl _ _).trans n3 hs⟩

set_option maxHeartbeats 1000000 in
theorem drop_any (h : PX w base b2 p t v sv lv s sh ls) (hb : b2 ≤ w.heap.size) (hsh : sh.length ≤ 1000000000 - 3) (hl : s.line.length ≤ 80) :
    Calls Try.prog 17 #[.pointer (some ⟨p, 0, none⟩), .pointer (some ⟨t, 0, none⟩)] w fun e w' => e = .returned (.tuple #[]) ∧ PR w w' base b2 p t v sv lv ⟨s.line.dropLast, s.stops, s.ret⟩ (sh ++ rubsN (min 1 s.line.length)) ls := by
  obtain ⟨A, c, rfl, hr, -⟩ := h.pt.2.2.shape
  have k0 : w.cell? ⟨p, 0, none⟩ = some (.slice A s.line.length c) := h.pt.2.1.at_ rfl
  have hc1 : s.line.length ≤ c := hr.1
  have hc2 : c ≤ 9223372036854775807 := hr.2.1
  obtain ⟨n, hn⟩ : ∃ n, s.line.length = n := ⟨_, rfl⟩
  have HN := Lib.hid hn
  have HS := Lib.hid hsh
  rw [hn] at h k0 hc1 hl ⊢
  have H := Lib.hid h
  by_cases h0 : 0 < n
  · have C0 := Lib.hid (show CB w p 42 [.slice A n c, .int .i64 (s.stops : Int), .bool s.ret] from h.pt.2.1)
    have OV := Lib.hid (show OwnB w base 5 (.slice A (n - 1) c) s.line.dropLast by rw [List.dropLast_eq_take, hn]; exact h.pt.2.2.cutK (by omega))
    have hmin : min 1 n = 1 := by omega
    rw [hmin]
    obtain ⟨m, hm⟩ : ∃ m, n - 1 = m := ⟨_, rfl⟩
    rw [hm] at OV
    have hw : IntKind.i64.wrap ((n : Int) - 1) = (m : Int) := by simp [IntKind.wrap, IntKind.bits, IntKind.signed]; omega
    have hni : (0 : Int) < (n : Int) := by omega
    have hmi : (m : Int) ≤ (c : Int) := by omega
    have hmn : m ≤ c := by omega
    clear h hr hn hsh hm hmin
    go_enter Try.func17, Try.ntmps17
    go_wp2
    go_still_tail 14, (by kernel_rfl)
    repeat still_step
    change wpList _ _ _ _ _ w.drew
    refine wpList_storeC (off := 0) (p := [.slice A m c]) szS rfl (.tmp 23) (.tmp 21) rfl (.slice A m c) rfl (fun u hu => by rw [List.mem_singleton.1 hu]; rfl) C0.out.drew rfl (by simp) rfl rfl ?_
    intro w1 h1 g1
    obtain ⟨v1, sv1, lv1, d1⟩ := H.out.setP (s' := ⟨s.line.dropLast, s.stops, s.ret⟩) (v' := .slice A m c) ((Mod.of_grown (grown_drew' g1)).mono (fun k _ hk => .inl (by injection hk))) ⟨H.out.pt.1, h1, OV.out.drew.mod (Mod.of_grown g1) (fun g hg e => by injection e with e; subst e; exact OV.out.ne_cells C0.out (by decide) hg)⟩ (Nw.cut w A _ c)
    have D1 := Lib.hid d1
    clear d1 h1 g1
    go_wp2_with (go_at_call 16; refine (show_any ((D1.out.1).alloc _) (by have := D1.out.2.1.size; rw [World.size_alloc]; omega) (by have := HS.out; omega) _ _ 3 3 rfl (rb3 _ _ 8 32 8 8 32 8 rfl rfl rfl) (by omega)).mono ?_; rintro e w2 ⟨rfl, r2⟩; have R2 := Lib.hid r2; clear r2)
    go_end0
    refine ⟨rfl, ?_⟩
    have r3 := prA _ R2.out
    exact PD.next D1.out r3
  · obtain rfl : n = 0 := by omega
    have hnil : s.line = [] := List.eq_nil_of_length_eq_zero hn
    have hs : (⟨s.line.dropLast, s.stops, s.ret⟩ : Tm) = s := by rw [hnil]; cases s; simp at hnil; subst hnil; rfl
    rw [hs]
    clear h hr hn hsh hnil hs
    go_enter Try.func17, Try.ntmps17
    go_wp2
    go_end0
    exact ⟨rfl, by simpa [rubsN] using H.out.refl⟩

set_option maxHeartbeats 1000000 in
theorem add_any (h : PX w base b2 p t v sv lv s sh ls) (hb : b2 ≤ w.heap.size) (hb1 : base ≤ w.heap.size) (hsh : sh.length ≤ 1000000000) (hl : s.line.length ≤ 80) (c : UInt8) :
    Calls Try.prog 18 #[.pointer (some ⟨p, 0, none⟩), .int .u8 (c.toNat : Int), .pointer (some ⟨t, 0, none⟩)] w fun e w' => e = .returned (.tuple #[]) ∧ PR w w' base b2 p t v sv lv ⟨if s.line.length < 80 then s.line ++ [c] else s.line, s.stops, s.ret⟩ (sh ++ (if s.line.length < 80 then [c] else [7])) ls := by
  obtain ⟨A, cc, rfl, hr, -⟩ := h.pt.2.2.shape
  have k0 : w.cell? ⟨p, 0, none⟩ = some (.slice A s.line.length cc) := h.pt.2.1.at_ rfl
  obtain ⟨n, hn⟩ : ∃ n, s.line.length = n := ⟨_, rfl⟩
  have HN := Lib.hid hn
  have HS := Lib.hid hsh
  rw [hn] at h k0 hl ⊢
  have H := Lib.hid h
  by_cases h0 : n < 80
  · have C0 := Lib.hid (show CB w p 42 [.slice A n cc, .int .i64 (s.stops : Int), .bool s.ret] from h.pt.2.1)
    have OV := Lib.hid h.pt.2.2
    rw [if_pos h0, if_pos h0]
    have hni : ¬ (80 : Int) ≤ (n : Int) := by omega
    clear h hr hn hsh
    have RBN := Lib.hid (rb1 w 5 c (c.toNat : Int) rfl)
    go_enter Try.func18, Try.ntmps18
    go_wp2_with (first
      | (at_builtin; refine wpList_appB byteT rfl (.tmp 19) (.tmp 21) rfl (OV.out.alloc _) RBN.out (by first | rfl | go_simp) rfl (by simp; have := HN.out; omega) (by rw [World.size_alloc]; omega) ?_; intro v2 w2 o2 g2 _ a2; have O2 := Lib.hid o2; have G2 := Lib.hid g2; have A2 := Lib.hid a2; have C2 := Lib.hid ((C0.out.alloc _).mod (Mod.of_grown g2) (fun e => OV.out.ne_cells C0.out (by decide) e.symm)); clear o2 g2 a2)
      | (refine wpList_storeC (off := 0) (p := [v2]) szS rfl (.tmp 24) (.tmp 22) rfl v2 (by obtain ⟨_, _, hx, _⟩ := O2.out.shape; rw [hx]; rfl) (fun u hu => by rw [List.mem_singleton.1 hu]; obtain ⟨_, _, hx, _⟩ := O2.out.shape; rw [hx]; rfl) C2.out rfl (by simp) (by first | rfl | go_simp) rfl ?_; intro w3 h3 g3; obtain ⟨v1, sv1, lv1, d1⟩ := (H.out.alloc _).setP (s' := ⟨s.line ++ [c], s.stops, s.ret⟩) (v' := v2) (((Mod.of_grown G2.out).mono (fun k _ hk => .inr hk.symm)).grown g3 (fun z hz _ => .inl (by injection hz with hz; exact hz.symm))) ⟨H.out.pt.1, h3, O2.out.mod (Mod.of_grown g3) (fun g hg e => by injection e with e; subst e; exact O2.out.ne_cells C2.out (by decide) hg)⟩ (Nw.of A2.out (Nat.le_refl _)); have D1 := Lib.hid d1; clear d1 h3 g3)
      | (go_at_call 16; refine (show_any ((D1.out.1).alloc _) (by have := D1.out.2.1.size; rw [World.size_alloc] at this ⊢; omega) (by have := HS.out; omega) _ _ 1 1 rfl (rb1 _ _ c (c.toNat : Int) rfl) (by omega)).mono ?_; rintro e w2 ⟨rfl, r2⟩; have R2 := Lib.hid r2; clear r2))
    go_end0
    exact ⟨rfl, prA _ (PD.next D1.out (prA _ R2.out))⟩
  · rw [if_neg h0, if_neg h0]
    have hni : (80 : Int) ≤ (n : Int) := by omega
    have hs : (⟨s.line, s.stops, s.ret⟩ : Tm) = s := rfl
    rw [hs]
    clear h hr hn hsh hs
    go_enter Try.func18, Try.ntmps18
    go_wp2_with (go_at_call 16; refine (show_any (H.out.alloc _) (by rw [World.size_alloc]; omega) HS.out _ _ 1 1 rfl (rb1 _ _ 7 7 rfl) (by omega)).mono ?_; rintro e w2 ⟨rfl, r2⟩; have R2 := Lib.hid r2; clear r2)
    (try simp only [Exit.inBlock, Exit.then]); refine bodyPost_ret (results_none rfl _ _ _) rfl ?_
    exact ⟨rfl, prA _ R2.out⟩
end
end Go.Proofs.Ytbkaabimafipoaa
