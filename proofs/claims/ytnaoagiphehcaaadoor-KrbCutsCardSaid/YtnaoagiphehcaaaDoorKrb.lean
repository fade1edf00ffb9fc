/- The walks of krb's valueOf, mayHave, Check. -/
import Derived.Test.YtnaoagiphehcaaaDoorKra
namespace Go.Proofs.YtnaoagiphehcaaaDoor
open Go.RowKit
set_option linter.unusedVariables false

theorem RB.keptB {w w' : World} {A : Option Addr} {l : List UInt8} {cap : Nat} (h : RB w w.heap.size A l cap) (hg : w.grownBy w' none) : RB w' w'.heap.size A l cap := (h.kept hg (Nat.le_refl _)).more hg.size
/-- What valueOf answers: bytes that lie ahead of B, or that are new. -/
def Valued (w : World) (B : Nat) (l : List UInt8) (e : Ending) (w' : World) : Prop :=
  ∃ A c, e = .returned (.slice A l.length c) ∧ RB w' w'.heap.size A l c ∧ (∀ a, A = some a → l = [] ∨ a.block < B ∨ w.heap.size ≤ a.block) ∧ w.grownBy w' none
theorem RB.ahead {w : World} {B : Nat} {A : Option Addr} {l : List UInt8} {c : Nat} (h : RB w B A l c) : ∀ a, A = some a → l = [] ∨ a.block < B := by
  intro a ha
  rcases h.2.2 with ⟨h1, _⟩ | ⟨a', h1, h2⟩
  · rw [h1] at ha; cases ha
  · rw [h1] at ha
    injection ha with ha
    subst ha
    cases l with
    | nil => exact .inl rfl
    | cons u l => have h3 := (h2 0 u rfl).1; exact .inr (by simpa [Addr.add] using h3)
theorem OwnG.shapeA {w : World} {base : Nat} {e : TypeId} {v : Value} {l : List UInt8} (h : OwnG w base e v l) : ∃ A cap, v = .slice A l.length cap ∧ RB w w.heap.size A l cap ∧ (∀ a, A = some a → base ≤ a.block) := by
  have hs := h.shape
  rcases h with ⟨rfl, rfl⟩ | ⟨g, cap, cur, fz, rfl, hb, hg, hc, hm, hcs, ht, -⟩
  · exact ⟨none, 0, rfl, RB.nil_ _ _, fun a ha => by cases ha⟩
  · obtain ⟨A, c, hv, hr, _⟩ := hs
    injection hv with h1 h2 h3
    subst h1 h3
    exact ⟨_, _, rfl, hr, fun a ha => by injection ha with ha; subst ha; exact hb⟩
theorem aggKm : AggT Tryd.prog 59 9 := ⟨fun w => by kernel_rfl, by kernel_rfl⟩
set_option maxRecDepth 10000 in
set_option maxHeartbeats 1000000 in
theorem valueOf_31 (m : Msg) (T : Option Addr) (tc : Nat) (S : Option Addr) (sc B : Nat) (w : World) (h : KM w B m T tc S sc) (hB : B ≤ w.heap.size) (hno : m.no < 18446744073709551616) (hc : m.c.size ≤ 70368744177664) (hs : m.s.size ≤ 70368744177664) :
    Calls Tryd.prog 76 #[.agg (kcells m T tc S sc).toArray, .int .i64 31] w fun e w' => Valued w B (valK m 31) e w' := by
  have HV := Lib.hid (show valK m 31 = numB (u64n m.kd) from rfl)
  have q := (CB.new w 59 (kcells m T tc S sc)).at_ (i := 0) rfl
  have G0 := Lib.hid (grown_alloc w (.cells (kcells m T tc S sc).toArray 59) none)
  rw [HV.out]
  have hw := u64n_wrap m.kd
  have HL := Lib.hid (u64n_lt m.kd)
  obtain ⟨n, hn⟩ : ∃ n, u64n m.kd = n := ⟨_, rfl⟩
  rw [hn] at hw HL ⊢
  obtain ⟨L, hL⟩ : ∃ L, numB n = L := ⟨_, rfl⟩
  have HLL := Lib.hid hL
  rw [hL]
  obtain ⟨X, hX⟩ : ∃ X, kcells m T tc S sc = X := ⟨_, rfl⟩
  rw [hX] at q G0 ⊢
  clear hX h hB hc hs hno hL HV hn
  go_enter Tryd.func76, Tryd.ntmps76
  go_wp2_with (go_at_call 55; refine (num_any n _ HL.out).mono ?_; rw [HLL.out]; rintro e w1 ⟨v, rfl, o, b⟩; obtain ⟨A, c, rfl, r, hb⟩ := o.shape; have R1 := Lib.hid r; have HBB := Lib.hid hb; have GN := Lib.hid (none_of_below b (Nat.le_refl _)); clear o b r hb)
  go_ret
  exact ⟨A, c, rfl, R1.out, fun a ha => .inr (.inr (Nat.le_trans G0.out.size (HBB.out a ha))), grown_trans' G0.out GN.out⟩
set_option maxRecDepth 10000 in
set_option maxHeartbeats 1000000 in
theorem valueOf_32 (m : Msg) (T : Option Addr) (tc : Nat) (S : Option Addr) (sc B : Nat) (w : World) (h : KM w B m T tc S sc) (hB : B ≤ w.heap.size) (hno : m.no < 18446744073709551616) (hc : m.c.size ≤ 70368744177664) (hs : m.s.size ≤ 70368744177664) :
    Calls Tryd.prog 76 #[.agg (kcells m T tc S sc).toArray, .int .i64 32] w fun e w' => Valued w B (valK m 32) e w' := by
  have HV := Lib.hid (show valK m 32 = m.c.data.toList from rfl)
  have q := (CB.new w 59 (kcells m T tc S sc)).at_ (i := 1) rfl
  have G0 := Lib.hid (grown_alloc w (.cells (kcells m T tc S sc).toArray 59) none)
  rw [HV.out]
  obtain ⟨b, hb⟩ : ∃ b, m.c = b := ⟨_, rfl⟩
  rw [hb] at hc ⊢
  have q := q.trans (congrArg (fun k => some (Value.string k)) hb)
  have HS := Lib.hid hc
  obtain ⟨X, hX⟩ : ∃ X, kcells m T tc S sc = X := ⟨_, rfl⟩
  rw [hX] at q G0 ⊢
  clear hX h hB hc hs hno hb HV
  go_enter Tryd.func76, Tryd.ntmps76
  go_wp2_with (refine wpList_convG byteT Tryd.underlying9 rfl (.tmp 15) rfl b HS.out rfl ?_; intro v w1 o g hb; obtain ⟨A, c, rfl, r, hbb⟩ := o.shapeA; have R1 := Lib.hid r; have HBB := Lib.hid hbb; have GN := Lib.hid g; clear o g hb r hbb)
  go_ret
  exact ⟨A, c, rfl, R1.out, fun a ha => .inr (.inr (Nat.le_trans G0.out.size (HBB.out a ha))), grown_trans' G0.out GN.out⟩
set_option maxRecDepth 10000 in
set_option maxHeartbeats 1000000 in
theorem valueOf_33 (m : Msg) (T : Option Addr) (tc : Nat) (S : Option Addr) (sc B : Nat) (w : World) (h : KM w B m T tc S sc) (hB : B ≤ w.heap.size) (hno : m.no < 18446744073709551616) (hc : m.c.size ≤ 70368744177664) (hs : m.s.size ≤ 70368744177664) :
    Calls Tryd.prog 76 #[.agg (kcells m T tc S sc).toArray, .int .i64 33] w fun e w' => Valued w B (valK m 33) e w' := by
  have HV := Lib.hid (show valK m 33 = m.s.data.toList from rfl)
  have q := (CB.new w 59 (kcells m T tc S sc)).at_ (i := 2) rfl
  have G0 := Lib.hid (grown_alloc w (.cells (kcells m T tc S sc).toArray 59) none)
  rw [HV.out]
  obtain ⟨b, hb⟩ : ∃ b, m.s = b := ⟨_, rfl⟩
  rw [hb] at hs ⊢
  have q := q.trans (congrArg (fun k => some (Value.string k)) hb)
  have HS := Lib.hid hs
  obtain ⟨X, hX⟩ : ∃ X, kcells m T tc S sc = X := ⟨_, rfl⟩
  rw [hX] at q G0 ⊢
  clear hX h hB hc hs hno hb HV
  go_enter Tryd.func76, Tryd.ntmps76
  go_wp2_with (refine wpList_convG byteT Tryd.underlying9 rfl (.tmp 20) rfl b HS.out rfl ?_; intro v w1 o g hb; obtain ⟨A, c, rfl, r, hbb⟩ := o.shapeA; have R1 := Lib.hid r; have HBB := Lib.hid hbb; have GN := Lib.hid g; clear o g hb r hbb)
  go_ret
  exact ⟨A, c, rfl, R1.out, fun a ha => .inr (.inr (Nat.le_trans G0.out.size (HBB.out a ha))), grown_trans' G0.out GN.out⟩
set_option maxRecDepth 10000 in
set_option maxHeartbeats 1000000 in
theorem valueOf_34 (m : Msg) (T : Option Addr) (tc : Nat) (S : Option Addr) (sc B : Nat) (w : World) (h : KM w B m T tc S sc) (hB : B ≤ w.heap.size) (hno : m.no < 18446744073709551616) (hc : m.c.size ≤ 70368744177664) (hs : m.s.size ≤ 70368744177664) :
    Calls Tryd.prog 76 #[.agg (kcells m T tc S sc).toArray, .int .i64 34] w fun e w' => Valued w B (valK m 34) e w' := by
  have HV := Lib.hid (show valK m 34 = numB m.no from rfl)
  have q := (CB.new w 59 (kcells m T tc S sc)).at_ (i := 3) rfl
  have G0 := Lib.hid (grown_alloc w (.cells (kcells m T tc S sc).toArray 59) none)
  rw [HV.out]
  obtain ⟨n, hn⟩ : ∃ n, m.no = n := ⟨_, rfl⟩
  rw [hn] at hno ⊢
  have HL := Lib.hid hno
  have q := q.trans (congrArg (fun k : Nat => some (Value.int .u64 (k : Int))) hn)
  obtain ⟨L, hL⟩ : ∃ L, numB n = L := ⟨_, rfl⟩
  have HLL := Lib.hid hL
  rw [hL]
  obtain ⟨X, hX⟩ : ∃ X, kcells m T tc S sc = X := ⟨_, rfl⟩
  rw [hX] at q G0 ⊢
  clear hX h hB hc hs hno hL HV hn
  go_enter Tryd.func76, Tryd.ntmps76
  go_wp2_with (go_at_call 55; refine (num_any n _ HL.out).mono ?_; rw [HLL.out]; rintro e w1 ⟨v, rfl, o, b⟩; obtain ⟨A, c, rfl, r, hb⟩ := o.shape; have R1 := Lib.hid r; have HBB := Lib.hid hb; have GN := Lib.hid (none_of_below b (Nat.le_refl _)); clear o b r hb)
  go_ret
  exact ⟨A, c, rfl, R1.out, fun a ha => .inr (.inr (Nat.le_trans G0.out.size (HBB.out a ha))), grown_trans' G0.out GN.out⟩
set_option maxRecDepth 10000 in
set_option maxHeartbeats 1000000 in
theorem valueOf_35 (m : Msg) (T : Option Addr) (tc : Nat) (S : Option Addr) (sc B : Nat) (w : World) (h : KM w B m T tc S sc) (hB : B ≤ w.heap.size) (hno : m.no < 18446744073709551616) (hc : m.c.size ≤ 70368744177664) (hs : m.s.size ≤ 70368744177664) :
    Calls Tryd.prog 76 #[.agg (kcells m T tc S sc).toArray, .int .i64 35] w fun e w' => Valued w B (valK m 35) e w' := by
  have HV := Lib.hid (show valK m 35 = numB (u64n m.en) from rfl)
  have q := (CB.new w 59 (kcells m T tc S sc)).at_ (i := 4) rfl
  have G0 := Lib.hid (grown_alloc w (.cells (kcells m T tc S sc).toArray 59) none)
  rw [HV.out]
  have hw := u64n_wrap m.en
  have HL := Lib.hid (u64n_lt m.en)
  obtain ⟨n, hn⟩ : ∃ n, u64n m.en = n := ⟨_, rfl⟩
  rw [hn] at hw HL ⊢
  obtain ⟨L, hL⟩ : ∃ L, numB n = L := ⟨_, rfl⟩
  have HLL := Lib.hid hL
  rw [hL]
  obtain ⟨X, hX⟩ : ∃ X, kcells m T tc S sc = X := ⟨_, rfl⟩
  rw [hX] at q G0 ⊢
  clear hX h hB hc hs hno hL HV hn
  go_enter Tryd.func76, Tryd.ntmps76
  go_wp2_with (go_at_call 55; refine (num_any n _ HL.out).mono ?_; rw [HLL.out]; rintro e w1 ⟨v, rfl, o, b⟩; obtain ⟨A, c, rfl, r, hb⟩ := o.shape; have R1 := Lib.hid r; have HBB := Lib.hid hb; have GN := Lib.hid (none_of_below b (Nat.le_refl _)); clear o b r hb)
  go_ret
  exact ⟨A, c, rfl, R1.out, fun a ha => .inr (.inr (Nat.le_trans G0.out.size (HBB.out a ha))), grown_trans' G0.out GN.out⟩
set_option maxRecDepth 10000 in
set_option maxHeartbeats 1000000 in
theorem valueOf_36 (m : Msg) (T : Option Addr) (tc : Nat) (S : Option Addr) (sc B : Nat) (w : World) (h : KM w B m T tc S sc) (hB : B ≤ w.heap.size) (hno : m.no < 18446744073709551616) (hc : m.c.size ≤ 70368744177664) (hs : m.s.size ≤ 70368744177664) :
    Calls Tryd.prog 76 #[.agg (kcells m T tc S sc).toArray, .int .i64 36] w fun e w' => Valued w B (valK m 36) e w' := by
  have HV := Lib.hid (show valK m 36 = numB (u64n m.fl) from rfl)
  have q := (CB.new w 59 (kcells m T tc S sc)).at_ (i := 5) rfl
  have G0 := Lib.hid (grown_alloc w (.cells (kcells m T tc S sc).toArray 59) none)
  rw [HV.out]
  have hw := u64n_wrap m.fl
  have HL := Lib.hid (u64n_lt m.fl)
  obtain ⟨n, hn⟩ : ∃ n, u64n m.fl = n := ⟨_, rfl⟩
  rw [hn] at hw HL ⊢
  obtain ⟨L, hL⟩ : ∃ L, numB n = L := ⟨_, rfl⟩
  have HLL := Lib.hid hL
  rw [hL]
  obtain ⟨X, hX⟩ : ∃ X, kcells m T tc S sc = X := ⟨_, rfl⟩
  rw [hX] at q G0 ⊢
  clear hX h hB hc hs hno hL HV hn
  go_enter Tryd.func76, Tryd.ntmps76
  go_wp2_with (go_at_call 55; refine (num_any n _ HL.out).mono ?_; rw [HLL.out]; rintro e w1 ⟨v, rfl, o, b⟩; obtain ⟨A, c, rfl, r, hb⟩ := o.shape; have R1 := Lib.hid r; have HBB := Lib.hid hb; have GN := Lib.hid (none_of_below b (Nat.le_refl _)); clear o b r hb)
  go_ret
  exact ⟨A, c, rfl, R1.out, fun a ha => .inr (.inr (Nat.le_trans G0.out.size (HBB.out a ha))), grown_trans' G0.out GN.out⟩
set_option maxRecDepth 10000 in
set_option maxHeartbeats 1000000 in
theorem valueOf_37 (m : Msg) (T : Option Addr) (tc : Nat) (S : Option Addr) (sc B : Nat) (w : World) (h : KM w B m T tc S sc) (hB : B ≤ w.heap.size) (hno : m.no < 18446744073709551616) (hc : m.c.size ≤ 70368744177664) (hs : m.s.size ≤ 70368744177664) :
    Calls Tryd.prog 76 #[.agg (kcells m T tc S sc).toArray, .int .i64 37] w fun e w' => Valued w B (valK m 37) e w' := by
  have HV := Lib.hid (show valK m 37 = m.t from rfl)
  have q := (CB.new w 59 (kcells m T tc S sc)).at_ (i := 6) rfl
  have G0 := Lib.hid (grown_alloc w (.cells (kcells m T tc S sc).toArray 59) none)
  rw [HV.out]
  have R0 := Lib.hid h.1
  have HB := Lib.hid hB
  obtain ⟨X, hX⟩ : ∃ X, kcells m T tc S sc = X := ⟨_, rfl⟩
  rw [hX] at q G0 ⊢
  clear hX h hB hc hs hno HV
  go_enter Tryd.func76, Tryd.ntmps76
  go_wp2
  go_ret
  exact ⟨T, tc, rfl, (R0.out.kept G0.out HB.out).more (Nat.le_trans HB.out G0.out.size), fun a ha => (R0.out.ahead a ha).imp id .inl, G0.out⟩
set_option maxRecDepth 10000 in
set_option maxHeartbeats 1000000 in
theorem valueOf_38 (m : Msg) (T : Option Addr) (tc : Nat) (S : Option Addr) (sc B : Nat) (w : World) (h : KM w B m T tc S sc) (hB : B ≤ w.heap.size) (hno : m.no < 18446744073709551616) (hc : m.c.size ≤ 70368744177664) (hs : m.s.size ≤ 70368744177664) :
    Calls Tryd.prog 76 #[.agg (kcells m T tc S sc).toArray, .int .i64 38] w fun e w' => Valued w B (valK m 38) e w' := by
  have HV := Lib.hid (show valK m 38 = m.sl from rfl)
  have q := (CB.new w 59 (kcells m T tc S sc)).at_ (i := 7) rfl
  have G0 := Lib.hid (grown_alloc w (.cells (kcells m T tc S sc).toArray 59) none)
  rw [HV.out]
  have R0 := Lib.hid h.2
  have HB := Lib.hid hB
  obtain ⟨X, hX⟩ : ∃ X, kcells m T tc S sc = X := ⟨_, rfl⟩
  rw [hX] at q G0 ⊢
  clear hX h hB hc hs hno HV
  go_enter Tryd.func76, Tryd.ntmps76
  go_wp2
  go_ret
  exact ⟨S, sc, rfl, (R0.out.kept G0.out HB.out).more (Nat.le_trans HB.out G0.out.size), fun a ha => (R0.out.ahead a ha).imp id .inl, G0.out⟩
set_option maxRecDepth 10000 in
set_option maxHeartbeats 1000000 in
theorem valueOf_39 (m : Msg) (T : Option Addr) (tc : Nat) (S : Option Addr) (sc B : Nat) (w : World) (h : KM w B m T tc S sc) (hB : B ≤ w.heap.size) (hno : m.no < 18446744073709551616) (hc : m.c.size ≤ 70368744177664) (hs : m.s.size ≤ 70368744177664) :
    Calls Tryd.prog 76 #[.agg (kcells m T tc S sc).toArray, .int .i64 39] w fun e w' => Valued w B (valK m 39) e w' := by
  have HV := Lib.hid (show valK m 39 = numB (u64n m.co) from rfl)
  have q := (CB.new w 59 (kcells m T tc S sc)).at_ (i := 8) rfl
  have G0 := Lib.hid (grown_alloc w (.cells (kcells m T tc S sc).toArray 59) none)
  rw [HV.out]
  have hw := u64n_wrap m.co
  have HL := Lib.hid (u64n_lt m.co)
  obtain ⟨n, hn⟩ : ∃ n, u64n m.co = n := ⟨_, rfl⟩
  rw [hn] at hw HL ⊢
  obtain ⟨L, hL⟩ : ∃ L, numB n = L := ⟨_, rfl⟩
  have HLL := Lib.hid hL
  rw [hL]
  obtain ⟨X, hX⟩ : ∃ X, kcells m T tc S sc = X := ⟨_, rfl⟩
  rw [hX] at q G0 ⊢
  clear hX h hB hc hs hno hL HV hn
  go_enter Tryd.func76, Tryd.ntmps76
  go_wp2_with (go_at_call 55; refine (num_any n _ HL.out).mono ?_; rw [HLL.out]; rintro e w1 ⟨v, rfl, o, b⟩; obtain ⟨A, c, rfl, r, hb⟩ := o.shape; have R1 := Lib.hid r; have HBB := Lib.hid hb; have GN := Lib.hid (none_of_below b (Nat.le_refl _)); clear o b r hb)
  go_ret
  exact ⟨A, c, rfl, R1.out, fun a ha => .inr (.inr (Nat.le_trans G0.out.size (HBB.out a ha))), grown_trans' G0.out GN.out⟩
theorem valueOf_any (tag : Int) (h1 : 31 ≤ tag) (h2 : tag ≤ 39) (m : Msg) (T : Option Addr) (tc : Nat) (S : Option Addr) (sc B : Nat) (w : World) (h : KM w B m T tc S sc) (hB : B ≤ w.heap.size) (hno : m.no < 18446744073709551616) (hc : m.c.size ≤ 70368744177664) (hs : m.s.size ≤ 70368744177664) :
    Calls Tryd.prog 76 #[.agg (kcells m T tc S sc).toArray, .int .i64 tag] w fun e w' => Valued w B (valK m tag) e w' := by
  by_cases h31 : tag = 31
  · subst h31; exact valueOf_31 m T tc S sc B w h hB hno hc hs
  by_cases h32 : tag = 32
  · subst h32; exact valueOf_32 m T tc S sc B w h hB hno hc hs
  by_cases h33 : tag = 33
  · subst h33; exact valueOf_33 m T tc S sc B w h hB hno hc hs
  by_cases h34 : tag = 34
  · subst h34; exact valueOf_34 m T tc S sc B w h hB hno hc hs
  by_cases h35 : tag = 35
  · subst h35; exact valueOf_35 m T tc S sc B w h hB hno hc hs
  by_cases h36 : tag = 36
  · subst h36; exact valueOf_36 m T tc S sc B w h hB hno hc hs
  by_cases h37 : tag = 37
  · subst h37; exact valueOf_37 m T tc S sc B w h hB hno hc hs
  by_cases h38 : tag = 38
  · subst h38; exact valueOf_38 m T tc S sc B w h hB hno hc hs
  obtain rfl : tag = 39 := by omega
  exact valueOf_39 m T tc S sc B w h hB hno hc hs

theorem kisName_any (s : ByteArray) (l : List UInt8) (hl : s.data.toList = l) (w : World) (hM : ML w) (hs : l.length ≤ 1000000) :
    Calls Tryd.prog 103 #[.string s] w fun e w' => e = .returned (.bool (parses l)) ∧ w.grownBy w' none := by
  have HL := Lib.hid hl
  have HM := Lib.hid hM
  have HS := Lib.hid hs
  cases hp : parses l with
  | true =>
    have HP := Lib.hid hp
    clear hl hM hs hp
    go_enter Tryd.func103, Tryd.ntmps103
    go_wp2_with (first
      | (go_at_call 94; refine (parse_any s l HL.out _ HM.out HS.out).mono ?_; intro e w1 h1; rw [Parsed, if_pos HP.out] at h1; obtain ⟨g, n, ls, r, rfl, -, -, -, -, -, -, hb⟩ := h1; have G1 := Lib.hid (none_of_below hb (Nat.le_refl _)); clear hb)
      | refine wpList_allocC zeroN_run rfl rfl ?_
      | (refine wpList_storeC (off := 0) (p := [.slice (some ⟨g, 0, none⟩) n n, .string r]) aggN.hi rfl (.tmp 3) (.tmp 8) rfl _ rfl (nm_one _ _ _ _) (CB.new w1 152 zeroN) rfl (Nat.le_refl _) (by first | rfl | go_simp) rfl ?_; intro w4 h4 g4; have G4 := Lib.hid (none_new (grown_trans' G1.out (grown_alloc w1 _ none)) g4 G1.out.size); clear h4 g4))
    go_ret
    exact ⟨rfl, G4.out⟩
  | false =>
    have HP := Lib.hid hp
    clear hl hM hs hp
    go_enter Tryd.func103, Tryd.ntmps103
    go_wp2_with (first
      | (go_at_call 94; refine (parse_any s l HL.out _ HM.out HS.out).mono ?_; intro e w1 h1; rw [Parsed, if_neg (by rw [HP.out]; simp)] at h1; obtain ⟨rfl, hb⟩ := h1; have G1 := Lib.hid (none_of_below hb (Nat.le_refl _)); clear hb)
      | refine wpList_allocC zeroN_run rfl rfl ?_
      | (refine wpList_storeC (off := 0) (p := [.slice none 0 0, .string ⟨#[]⟩]) aggN.hi rfl (.tmp 3) (.tmp 8) rfl _ rfl (nm_one _ _ _ _) (CB.new w1 152 zeroN) rfl (Nat.le_refl _) (by first | rfl | go_simp) rfl ?_; intro w4 h4 g4; have G4 := Lib.hid (none_new (grown_trans' G1.out (grown_alloc w1 _ none)) g4 G1.out.size); clear h4 g4))
    go_ret
    exact ⟨rfl, G4.out⟩

set_option maxRecDepth 10000 in
set_option maxHeartbeats 1000000 in
theorem mayHave_32 (m : Msg) (T : Option Addr) (tc : Nat) (S : Option Addr) (sc : Nat) (w : World) (hM : ML w) (hc : m.c.size ≤ 1000000) (hs : m.s.size ≤ 1000000) :
    Calls Tryd.prog 81 #[.agg (kcells m T tc S sc).toArray, .int .i64 32] w fun e w' => e = .returned (.bool (mayK m 32)) ∧ w.grownBy w' none := by
  have q := (CB.new w 59 (kcells m T tc S sc)).at_ (i := 1) rfl
  have G0 := Lib.hid (grown_alloc w (.cells (kcells m T tc S sc).toArray 59) none)
  have HL := Lib.hid (show m.c.data.toList.length ≤ 1000000 from hc)
  have HM := Lib.hid (hM.below (below_of_none G0.out))
  obtain ⟨b, hb⟩ : ∃ b, mayK m 32 = b := ⟨_, rfl⟩
  have HB := Lib.hid (show parses m.c.data.toList = b from hb)
  rw [hb]
  obtain ⟨X, hX⟩ : ∃ X, kcells m T tc S sc = X := ⟨_, rfl⟩
  rw [hX] at q G0 HM ⊢
  clear hX hM hc hs hb
  go_enter Tryd.func81, Tryd.ntmps81
  go_wp2_with (go_at_call 103; refine (kisName_any m.c _ rfl _ HM.out HL.out).mono ?_; rw [HB.out]; rintro e w1 ⟨rfl, g⟩; have G1 := Lib.hid (grown_trans' G0.out g); clear g)
  go_ret
  exact ⟨rfl, G1.out⟩
set_option maxRecDepth 10000 in
set_option maxHeartbeats 1000000 in
theorem mayHave_33 (m : Msg) (T : Option Addr) (tc : Nat) (S : Option Addr) (sc : Nat) (w : World) (hM : ML w) (hc : m.c.size ≤ 1000000) (hs : m.s.size ≤ 1000000) :
    Calls Tryd.prog 81 #[.agg (kcells m T tc S sc).toArray, .int .i64 33] w fun e w' => e = .returned (.bool (mayK m 33)) ∧ w.grownBy w' none := by
  have q := (CB.new w 59 (kcells m T tc S sc)).at_ (i := 2) rfl
  have G0 := Lib.hid (grown_alloc w (.cells (kcells m T tc S sc).toArray 59) none)
  have HL := Lib.hid (show m.s.data.toList.length ≤ 1000000 from hs)
  have HM := Lib.hid (hM.below (below_of_none G0.out))
  obtain ⟨b, hb⟩ : ∃ b, mayK m 33 = b := ⟨_, rfl⟩
  have HB := Lib.hid (show parses m.s.data.toList = b from hb)
  rw [hb]
  obtain ⟨X, hX⟩ : ∃ X, kcells m T tc S sc = X := ⟨_, rfl⟩
  rw [hX] at q G0 HM ⊢
  clear hX hM hc hs hb
  go_enter Tryd.func81, Tryd.ntmps81
  go_wp2_with (go_at_call 103; refine (kisName_any m.s _ rfl _ HM.out HL.out).mono ?_; rw [HB.out]; rintro e w1 ⟨rfl, g⟩; have G1 := Lib.hid (grown_trans' G0.out g); clear g)
  go_ret
  exact ⟨rfl, G1.out⟩
set_option maxRecDepth 10000 in
set_option maxHeartbeats 1000000 in
theorem mayHave_34 (m : Msg) (T : Option Addr) (tc : Nat) (S : Option Addr) (sc : Nat) (w : World) (hM : ML w) (hc : m.c.size ≤ 1000000) (hs : m.s.size ≤ 1000000) :
    Calls Tryd.prog 81 #[.agg (kcells m T tc S sc).toArray, .int .i64 34] w fun e w' => e = .returned (.bool (mayK m 34)) ∧ w.grownBy w' none := by
  have q := (CB.new w 59 (kcells m T tc S sc)).at_ (i := 3) rfl
  have G0 := Lib.hid (grown_alloc w (.cells (kcells m T tc S sc).toArray 59) none)
  rw [show mayK m 34 = true from rfl]
  obtain ⟨X, hX⟩ : ∃ X, kcells m T tc S sc = X := ⟨_, rfl⟩
  rw [hX] at G0 ⊢
  clear hX hM hc hs q
  go_enter Tryd.func81, Tryd.ntmps81
  go_wp2
  go_ret
  exact ⟨rfl, G0.out⟩
set_option maxRecDepth 10000 in
set_option maxHeartbeats 1000000 in
theorem mayHave_35 (m : Msg) (T : Option Addr) (tc : Nat) (S : Option Addr) (sc : Nat) (w : World) (hM : ML w) (hc : m.c.size ≤ 1000000) (hs : m.s.size ≤ 1000000) :
    Calls Tryd.prog 81 #[.agg (kcells m T tc S sc).toArray, .int .i64 35] w fun e w' => e = .returned (.bool (mayK m 35)) ∧ w.grownBy w' none := by
  have q := (CB.new w 59 (kcells m T tc S sc)).at_ (i := 4) rfl
  have G0 := Lib.hid (grown_alloc w (.cells (kcells m T tc S sc).toArray 59) none)
  rw [show mayK m 35 = (decide (0 ≤ m.en) && decide (m.en ≤ 1099511627776)) from rfl]
  obtain ⟨X, hX⟩ : ∃ X, kcells m T tc S sc = X := ⟨_, rfl⟩
  rw [hX] at q G0 ⊢
  clear hX hM hc hs
  by_cases h1 : 0 ≤ m.en
  · by_cases h2 : m.en ≤ 1099511627776
    · have d1 : decide (0 ≤ m.en) = true := decide_eq_true h1
      have d2 : decide (m.en ≤ 1099511627776) = true := decide_eq_true h2
      rw [d1, d2]
      go_enter Tryd.func81, Tryd.ntmps81
      go_wp2
      go_ret
      exact ⟨rfl, G0.out⟩
    · have d1 : decide (0 ≤ m.en) = true := decide_eq_true h1
      have d2 : decide (m.en ≤ 1099511627776) = false := decide_eq_false h2
      rw [d1, d2]
      go_enter Tryd.func81, Tryd.ntmps81
      go_wp2
      go_ret
      exact ⟨rfl, G0.out⟩
  · have d1 : decide (0 ≤ m.en) = false := decide_eq_false h1
    rw [d1, Bool.false_and]
    go_enter Tryd.func81, Tryd.ntmps81
    go_wp2
    go_ret
    exact ⟨rfl, G0.out⟩
set_option maxRecDepth 10000 in
set_option maxHeartbeats 1000000 in
theorem mayHave_36 (m : Msg) (T : Option Addr) (tc : Nat) (S : Option Addr) (sc : Nat) (w : World) (hM : ML w) (hc : m.c.size ≤ 1000000) (hs : m.s.size ≤ 1000000) :
    Calls Tryd.prog 81 #[.agg (kcells m T tc S sc).toArray, .int .i64 36] w fun e w' => e = .returned (.bool (mayK m 36)) ∧ w.grownBy w' none := by
  have q := (CB.new w 59 (kcells m T tc S sc)).at_ (i := 5) rfl
  have G0 := Lib.hid (grown_alloc w (.cells (kcells m T tc S sc).toArray 59) none)
  rw [show mayK m 36 = (decide (0 ≤ m.fl) && decide (m.fl ≤ 3)) from rfl]
  obtain ⟨X, hX⟩ : ∃ X, kcells m T tc S sc = X := ⟨_, rfl⟩
  rw [hX] at q G0 ⊢
  clear hX hM hc hs
  by_cases h1 : 0 ≤ m.fl
  · by_cases h2 : m.fl ≤ 3
    · have d1 : decide (0 ≤ m.fl) = true := decide_eq_true h1
      have d2 : decide (m.fl ≤ 3) = true := decide_eq_true h2
      rw [d1, d2]
      go_enter Tryd.func81, Tryd.ntmps81
      go_wp2
      go_ret
      exact ⟨rfl, G0.out⟩
    · have d1 : decide (0 ≤ m.fl) = true := decide_eq_true h1
      have d2 : decide (m.fl ≤ 3) = false := decide_eq_false h2
      rw [d1, d2]
      go_enter Tryd.func81, Tryd.ntmps81
      go_wp2
      go_ret
      exact ⟨rfl, G0.out⟩
  · have d1 : decide (0 ≤ m.fl) = false := decide_eq_false h1
    rw [d1, Bool.false_and]
    go_enter Tryd.func81, Tryd.ntmps81
    go_wp2
    go_ret
    exact ⟨rfl, G0.out⟩
set_option maxRecDepth 10000 in
set_option maxHeartbeats 1000000 in
theorem mayHave_37 (m : Msg) (T : Option Addr) (tc : Nat) (S : Option Addr) (sc : Nat) (w : World) (hM : ML w) (hc : m.c.size ≤ 1000000) (hs : m.s.size ≤ 1000000) :
    Calls Tryd.prog 81 #[.agg (kcells m T tc S sc).toArray, .int .i64 37] w fun e w' => e = .returned (.bool (mayK m 37)) ∧ w.grownBy w' none := by
  have q := (CB.new w 59 (kcells m T tc S sc)).at_ (i := 6) rfl
  have G0 := Lib.hid (grown_alloc w (.cells (kcells m T tc S sc).toArray 59) none)
  obtain ⟨n, hn⟩ : ∃ n, m.t.length = n := ⟨_, rfl⟩
  rw [show mayK m 37 = decide (m.t.length ≤ 3000) from rfl, hn]
  have q := q.trans (congrArg (fun k => some (Value.slice T k tc)) hn)
  obtain ⟨X, hX⟩ : ∃ X, kcells m T tc S sc = X := ⟨_, rfl⟩
  rw [hX] at q G0 ⊢
  clear hX hM hc hs hn
  by_cases h1 : n ≤ 3000
  · have h2 : (n : Int) ≤ 3000 := by omega
    rw [decide_eq_true h1]
    go_enter Tryd.func81, Tryd.ntmps81
    go_wp2
    go_ret
    exact ⟨rfl, G0.out⟩
  · have h2 : ¬ ((n : Int) ≤ 3000) := by omega
    rw [decide_eq_false h1]
    go_enter Tryd.func81, Tryd.ntmps81
    go_wp2
    go_ret
    exact ⟨rfl, G0.out⟩
set_option maxRecDepth 10000 in
set_option maxHeartbeats 1000000 in
theorem mayHave_38 (m : Msg) (T : Option Addr) (tc : Nat) (S : Option Addr) (sc : Nat) (w : World) (hM : ML w) (hc : m.c.size ≤ 1000000) (hs : m.s.size ≤ 1000000) :
    Calls Tryd.prog 81 #[.agg (kcells m T tc S sc).toArray, .int .i64 38] w fun e w' => e = .returned (.bool (mayK m 38)) ∧ w.grownBy w' none := by
  have q := (CB.new w 59 (kcells m T tc S sc)).at_ (i := 7) rfl
  have G0 := Lib.hid (grown_alloc w (.cells (kcells m T tc S sc).toArray 59) none)
  obtain ⟨n, hn⟩ : ∃ n, m.sl.length = n := ⟨_, rfl⟩
  rw [show mayK m 38 = decide (m.sl.length ≤ 3000) from rfl, hn]
  have q := q.trans (congrArg (fun k => some (Value.slice S k sc)) hn)
  obtain ⟨X, hX⟩ : ∃ X, kcells m T tc S sc = X := ⟨_, rfl⟩
  rw [hX] at q G0 ⊢
  clear hX hM hc hs hn
  by_cases h1 : n ≤ 3000
  · have h2 : (n : Int) ≤ 3000 := by omega
    rw [decide_eq_true h1]
    go_enter Tryd.func81, Tryd.ntmps81
    go_wp2
    go_ret
    exact ⟨rfl, G0.out⟩
  · have h2 : ¬ ((n : Int) ≤ 3000) := by omega
    rw [decide_eq_false h1]
    go_enter Tryd.func81, Tryd.ntmps81
    go_wp2
    go_ret
    exact ⟨rfl, G0.out⟩
set_option maxRecDepth 10000 in
set_option maxHeartbeats 1000000 in
theorem mayHave_39 (m : Msg) (T : Option Addr) (tc : Nat) (S : Option Addr) (sc : Nat) (w : World) (hM : ML w) (hc : m.c.size ≤ 1000000) (hs : m.s.size ≤ 1000000) :
    Calls Tryd.prog 81 #[.agg (kcells m T tc S sc).toArray, .int .i64 39] w fun e w' => e = .returned (.bool (mayK m 39)) ∧ w.grownBy w' none := by
  have q := (CB.new w 59 (kcells m T tc S sc)).at_ (i := 8) rfl
  have G0 := Lib.hid (grown_alloc w (.cells (kcells m T tc S sc).toArray 59) none)
  rw [show mayK m 39 = (decide (1 ≤ m.co) && decide (m.co ≤ 999)) from rfl]
  obtain ⟨X, hX⟩ : ∃ X, kcells m T tc S sc = X := ⟨_, rfl⟩
  rw [hX] at q G0 ⊢
  clear hX hM hc hs
  by_cases h1 : 1 ≤ m.co
  · by_cases h2 : m.co ≤ 999
    · have d1 : decide (1 ≤ m.co) = true := decide_eq_true h1
      have d2 : decide (m.co ≤ 999) = true := decide_eq_true h2
      rw [d1, d2]
      go_enter Tryd.func81, Tryd.ntmps81
      go_wp2
      go_ret
      exact ⟨rfl, G0.out⟩
    · have d1 : decide (1 ≤ m.co) = true := decide_eq_true h1
      have d2 : decide (m.co ≤ 999) = false := decide_eq_false h2
      rw [d1, d2]
      go_enter Tryd.func81, Tryd.ntmps81
      go_wp2
      go_ret
      exact ⟨rfl, G0.out⟩
  · have d1 : decide (1 ≤ m.co) = false := decide_eq_false h1
    rw [d1, Bool.false_and]
    go_enter Tryd.func81, Tryd.ntmps81
    go_wp2
    go_ret
    exact ⟨rfl, G0.out⟩
theorem mayHave_any (tag : Int) (h1 : 32 ≤ tag) (h2 : tag ≤ 39) (m : Msg) (T : Option Addr) (tc : Nat) (S : Option Addr) (sc : Nat) (w : World) (hM : ML w) (hc : m.c.size ≤ 1000000) (hs : m.s.size ≤ 1000000) :
    Calls Tryd.prog 81 #[.agg (kcells m T tc S sc).toArray, .int .i64 tag] w fun e w' => e = .returned (.bool (mayK m tag)) ∧ w.grownBy w' none := by
  by_cases h32 : tag = 32
  · subst h32; exact mayHave_32 m T tc S sc w hM hc hs
  by_cases h33 : tag = 33
  · subst h33; exact mayHave_33 m T tc S sc w hM hc hs
  by_cases h34 : tag = 34
  · subst h34; exact mayHave_34 m T tc S sc w hM hc hs
  by_cases h35 : tag = 35
  · subst h35; exact mayHave_35 m T tc S sc w hM hc hs
  by_cases h36 : tag = 36
  · subst h36; exact mayHave_36 m T tc S sc w hM hc hs
  by_cases h37 : tag = 37
  · subst h37; exact mayHave_37 m T tc S sc w hM hc hs
  by_cases h38 : tag = 38
  · subst h38; exact mayHave_38 m T tc S sc w hM hc hs
  obtain rfl : tag = 39 := by omega
  exact mayHave_39 m T tc S sc w hM hc hs

theorem RI.of_len {w : World} {B : Nat} {A : Option Addr} {l : List Int} {c : Nat} (h : RI w B A l c) (hp : 0 < l.length) : ∃ b off, A = some ⟨b, off, none⟩ ∧ ∀ j, j < l.length → w.cell? ⟨b, off + j, none⟩ = some (.int .i64 (l.getD j 0)) := by
  obtain ⟨b, off, hA, _, hc⟩ := h.open_ hp
  refine ⟨b, off, hA, fun j hj => ?_⟩
  rw [hc j hj]
  simp [List.getD, List.getElem?_eq_getElem hj]
/-- The tags from one on, as the loop of Check goes through them. -/
def restK (k : Nat) : List Int := ((List.range 8).drop k).map fun i => ((32 + i : Nat) : Int)
theorem okK_split (m : Msg) : okK m = (decide (tagsK m.kd ≠ []) && (restK 0).all (stepK m)) := rfl
theorem restK_next (k : Nat) (h : k < 8) : restK k = ((32 + k : Nat) : Int) :: restK (k + 1) := by
  rcases k with _ | _ | _ | _ | _ | _ | _ | _ | k <;> first | rfl | omega
theorem tagsK_length (k : Int) : (tagsK k).length ≤ 7 := by
  unfold tagsK
  repeat' split
  all_goals decide
set_option maxRecDepth 10000 in
set_option maxHeartbeats 2000000 in
theorem check_k (m : Msg) (T : Option Addr) (tc : Nat) (S : Option Addr) (sc B : Nat) (w : World) (hM : ML w) (h : KM w B m T tc S sc) (hB : B ≤ w.heap.size) (hno : m.no < 18446744073709551616) (hc : m.c.size ≤ 1000000) (hs : m.s.size ≤ 1000000) :
    Calls Tryd.prog 33 #[.agg (kcells m T tc S sc).toArray] w fun e w' => e = .returned (.int .i64 (if okK m = true then 0 else 1)) ∧ w.grownBy w' none := by
  have HM := Lib.hid hM
  have HK := Lib.hid h
  have HB := Lib.hid hB
  have HNO := Lib.hid hno
  have HC := Lib.hid hc
  have HS := Lib.hid hs
  have B0 := Lib.hid (CB.new w 59 (kcells m T tc S sc))
  have G0 := Lib.hid (grown_alloc w (.cells (kcells m T tc S sc).toArray 59) none)
  have q0 := B0.out.at_ (i := 0) (v := .int .i64 m.kd) rfl
  obtain ⟨ks, hks⟩ : ∃ ks, tagsK m.kd = ks := ⟨_, rfl⟩
  have HKS := Lib.hid hks
  have HKN := Lib.hid (show ks.length ≤ 7 by rw [← hks]; exact tagsK_length _)
  have HOK := Lib.hid (okK_split m)
  obtain ⟨ans, hans⟩ : ∃ a : Int, (if okK m = true then (0 : Int) else 1) = a := ⟨_, rfl⟩
  have HANS := Lib.hid hans
  rw [hans]
  clear hans
  by_cases h0 : ks = []
  · subst h0
    have HR := Lib.hid (show okK m = false by rw [okK_split, hks]; rfl)
    clear hM h hB hno hc hs hks
    go_enter Tryd.func33, Tryd.ntmps33
    go_wp2_with (go_at_call 75; refine (tagsOf_any m.kd _).mono ?_; rintro e w1 ⟨v, rfl, hi, g⟩; rw [HKS.out] at hi; obtain ⟨A, c, rfl, hr⟩ := hi; have G1 := Lib.hid (grown_trans' G0.out g); clear g hr)
    go_ret
    exact ⟨by rw [← HANS.out, HR.out]; rfl, G1.out⟩
  · obtain ⟨n, hn⟩ : ∃ n, ks.length = n := ⟨_, rfl⟩
    have HN := Lib.hid hn
    have hnp : 0 < n := by
      rw [← hn]
      exact List.length_pos_iff.2 h0
    have hne : ¬ ((n : Int) = 0) := by omega
    have hne2 : ((n : Int) == 0) = false := by simpa using hne
    have HNP := Lib.hid hnp
    have HR := Lib.hid (show okK m = (restK 0).all (stepK m) by rw [okK_split, hks, decide_eq_true h0, Bool.true_and])
    clear hM h hB hno hc hs hks h0 hnp
    go_enter Tryd.func33, Tryd.ntmps33
    go_wp2_with (go_at_call 75; refine (tagsOf_any m.kd _).mono ?_; rintro e w1 ⟨v, rfl, hi, g⟩; rw [HKS.out] at hi; obtain ⟨A, c, rfl, hr⟩ := hi; rw [HN.out]; have G1 := Lib.hid (grown_trans' G0.out g); have B1 := Lib.hid (B0.out.kept g); have R1 := Lib.hid hr; clear g hr)
    go_loopw [4] (fun i wr => ∃ k : Nat, i = .int .i64 ((32 + k : Nat) : Int) ∧ k ≤ 8 ∧ (restK 0).all (stepK m) = (restK k).all (stepK m) ∧ w1.grownBy wr none) (fun i _ => 40 - (intOf i).toNat)
    case atStart => exact ⟨0, rfl, by omega, rfl, World.grownBy.refl _ _⟩
    case round =>
      obtain ⟨k, rfl, hk, hall, hg⟩ := hrel
      have GR := Lib.hid hg
      have HALL := Lib.hid hall
      clear hg hall
      by_cases hlt : k < 8
      · have hle : ((32 + k : Nat) : Int) ≤ 39 := by omega
        obtain ⟨tg, htg⟩ : ∃ t : Int, ((32 + k : Nat) : Int) = t := ⟨_, rfl⟩
        have HT1 := Lib.hid (show 32 ≤ tg by omega)
        have HT2 := Lib.hid (show tg ≤ 39 by omega)
        have HTK := Lib.hid htg
        have HST := Lib.hid (show (restK k).all (stepK m) = (stepK m tg && (restK (k + 1)).all (stepK m)) by rw [restK_next k hlt, htg]; rfl)
        obtain ⟨L, hL⟩ : ∃ L, valK m tg = L := ⟨_, rfl⟩
        have HLL := Lib.hid hL
        obtain ⟨nl, hnl⟩ : ∃ n, L.length = n := ⟨_, rfl⟩
        have HNL := Lib.hid hnl
        have BR := Lib.hid (B1.out.kept GR.out)
        have G2 := Lib.hid (grown_trans' G1.out GR.out)
        obtain ⟨b, off, hA, hcell⟩ := R1.out.of_len (by rw [HN.out]; exact HNP.out)
        have hsz := R1.out
        subst hA
        have HCE := Lib.hid (show ∀ j, j < ks.length → wr.cell? ⟨b, off + j, none⟩ = some (.int .i64 (ks.getD j 0)) from fun j hj => by
          obtain ⟨b', off', hA', hb', hc'⟩ := R1.out.open_ (by rw [HN.out]; exact HNP.out)
          injection hA' with hA'
          injection hA' with h1 h2
          subst h1 h2
          rw [(below_of_none GR.out).cell (p := ⟨b, off + j, none⟩) hb']
          exact hcell j hj)
        clear hcell hL hnl hsz
        have TK1 := Lib.hid True.intro
        rw [htg] at hle ⊢
        have hge := HT1.out
        have hmax : ks.take n = ks := List.take_of_length_le (by rw [HN.out]; exact Nat.le_refl _)
        have HMAX := Lib.hid hmax
        clear hmax
        cases hin : ks.contains tg with
        | true =>
          have HIN := Lib.hid hin
          obtain ⟨mb, hmb⟩ : ∃ b, mayK m tg = b := ⟨_, rfl⟩
          have HMB := Lib.hid hmb
          have HSTEP := Lib.hid (show stepK m tg = mb by rw [stepK, HKS.out, hin, if_pos rfl, hmb])
          clear hin hmb htg
          cases mb with
          | true =>
            go_wp2_with (first
              | (have hx := TK1; clear hx; refine wpList_loadC (off := 0) (p := kcells m T tc S sc) aggKm rfl (.tmp 1) rfl BR.out rfl (by rw [kcells_length]; omega) (by first | rfl | go_simp) ?_)
              | (go_at_call 76; refine (valueOf_any tg (by have := HT1.out; omega) HT2.out m T tc S sc B _ (HK.out.kept G2.out HB.out) (Nat.le_trans HB.out G2.out.size) HNO.out (by have := HC.out; omega) (by have := HS.out; omega)).mono ?_; rw [HLL.out]; rintro e w3 ⟨V, vc, rfl, -, -, g⟩; rw [HNL.out]; have G3 := Lib.hid g; have B3 := Lib.hid (BR.out.kept g); clear TK1 g)
              | (go_at_call 80; refine (sh_slices_Contains_int b off n c ks tg _ (by rw [HN.out]; exact Nat.le_refl _) (by have := HN.out; have := HKN.out; omega) (fun j hj => by obtain ⟨b', off', hA', hb', hc'⟩ := R1.out.open_ (by rw [HN.out]; exact HNP.out); injection hA' with hA'; injection hA' with h1 h2; subst h1 h2; rw [(below_of_none G3.out).cell (p := ⟨b, off + j, none⟩) (Nat.lt_of_lt_of_le hb' GR.out.size)]; exact HCE.out j hj)).mono ?_; rw [HMAX.out, HIN.out]; rintro e w4 ⟨rfl, rfl⟩; have G4 := Lib.hid G3.out; clear G3)
              | (refine wpList_loadC (off := 0) (p := kcells m T tc S sc) aggKm rfl (.tmp 1) rfl B3.out rfl (by rw [kcells_length]; omega) (by first | rfl | go_simp) ?_)
              | (go_at_call 81; refine (mayHave_any tg HT1.out HT2.out m T tc S sc _ (HM.out.below (below_of_none (grown_trans' G2.out G4.out))) HC.out HS.out).mono ?_; rw [HMB.out]; rintro e w5 ⟨rfl, g⟩; have G5 := Lib.hid (grown_trans' G4.out g); clear g))
            go_roundw
            case rel => exact ⟨k + 1, by have := HTK.out; have h9 : ((32 + (k + 1) : Nat) : Int) = tg + 1 := (by omega); first | (rw [h9]; done) | (rw [h9]; go_num), by omega, by rw [HALL.out, HST.out, HSTEP.out, Bool.true_and], grown_trans' GR.out G5.out⟩
            case measure => have := HTK.out; simp [intOf]; omega
          | false =>
            go_wp2_with (first
              | (have hx := TK1; clear hx; refine wpList_loadC (off := 0) (p := kcells m T tc S sc) aggKm rfl (.tmp 1) rfl BR.out rfl (by rw [kcells_length]; omega) (by first | rfl | go_simp) ?_)
              | (go_at_call 76; refine (valueOf_any tg (by have := HT1.out; omega) HT2.out m T tc S sc B _ (HK.out.kept G2.out HB.out) (Nat.le_trans HB.out G2.out.size) HNO.out (by have := HC.out; omega) (by have := HS.out; omega)).mono ?_; rw [HLL.out]; rintro e w3 ⟨V, vc, rfl, -, -, g⟩; rw [HNL.out]; have G3 := Lib.hid g; have B3 := Lib.hid (BR.out.kept g); clear TK1 g)
              | (go_at_call 80; refine (sh_slices_Contains_int b off n c ks tg _ (by rw [HN.out]; exact Nat.le_refl _) (by have := HN.out; have := HKN.out; omega) (fun j hj => by obtain ⟨b', off', hA', hb', hc'⟩ := R1.out.open_ (by rw [HN.out]; exact HNP.out); injection hA' with hA'; injection hA' with h1 h2; subst h1 h2; rw [(below_of_none G3.out).cell (p := ⟨b, off + j, none⟩) (Nat.lt_of_lt_of_le hb' GR.out.size)]; exact HCE.out j hj)).mono ?_; rw [HMAX.out, HIN.out]; rintro e w4 ⟨rfl, rfl⟩; have G4 := Lib.hid G3.out; clear G3)
              | (refine wpList_loadC (off := 0) (p := kcells m T tc S sc) aggKm rfl (.tmp 1) rfl B3.out rfl (by rw [kcells_length]; omega) (by first | rfl | go_simp) ?_)
              | (go_at_call 81; refine (mayHave_any tg HT1.out HT2.out m T tc S sc _ (HM.out.below (below_of_none (grown_trans' G2.out G4.out))) HC.out HS.out).mono ?_; rw [HMB.out]; rintro e w5 ⟨rfl, g⟩; have G5 := Lib.hid (grown_trans' G4.out g); clear g))
            go_ret
            exact ⟨by rw [← HANS.out, HR.out, HALL.out, HST.out, HSTEP.out]; rfl, grown_trans' G1.out (grown_trans' GR.out G5.out)⟩
        | false =>
          have HIN := Lib.hid hin
          have HSTEP := Lib.hid (show stepK m tg = decide (nl = 0) by rw [stepK, HKS.out, hin, if_neg (by simp), HLL.out, HNL.out])
          clear hin htg
          by_cases hz : nl = 0
          · have HZ := Lib.hid hz
            have hzi : ((nl : Int) == 0) = true := by simpa using hz
            clear hz
            go_wp2_with (first
              | (have hx := TK1; clear hx; refine wpList_loadC (off := 0) (p := kcells m T tc S sc) aggKm rfl (.tmp 1) rfl BR.out rfl (by rw [kcells_length]; omega) (by first | rfl | go_simp) ?_)
              | (go_at_call 76; refine (valueOf_any tg (by have := HT1.out; omega) HT2.out m T tc S sc B _ (HK.out.kept G2.out HB.out) (Nat.le_trans HB.out G2.out.size) HNO.out (by have := HC.out; omega) (by have := HS.out; omega)).mono ?_; rw [HLL.out]; rintro e w3 ⟨V, vc, rfl, -, -, g⟩; rw [HNL.out]; have G3 := Lib.hid g; have B3 := Lib.hid (BR.out.kept g); clear TK1 g)
              | (go_at_call 80; refine (sh_slices_Contains_int b off n c ks tg _ (by rw [HN.out]; exact Nat.le_refl _) (by have := HN.out; have := HKN.out; omega) (fun j hj => by obtain ⟨b', off', hA', hb', hc'⟩ := R1.out.open_ (by rw [HN.out]; exact HNP.out); injection hA' with hA'; injection hA' with h1 h2; subst h1 h2; rw [(below_of_none G3.out).cell (p := ⟨b, off + j, none⟩) (Nat.lt_of_lt_of_le hb' GR.out.size)]; exact HCE.out j hj)).mono ?_; rw [HMAX.out, HIN.out]; rintro e w4 ⟨rfl, rfl⟩; have G4 := Lib.hid G3.out; clear G3))
            go_roundw
            case rel => exact ⟨k + 1, by have := HTK.out; have h9 : ((32 + (k + 1) : Nat) : Int) = tg + 1 := (by omega); first | (rw [h9]; done) | (rw [h9]; go_num), by omega, by rw [HALL.out, HST.out, HSTEP.out, decide_eq_true HZ.out, Bool.true_and], grown_trans' GR.out G4.out⟩
            case measure => have := HTK.out; simp [intOf]; omega
          · have HZ := Lib.hid hz
            have hzi : ((nl : Int) == 0) = false := by simpa using hz
            clear hz
            go_wp2_with (first
              | (have hx := TK1; clear hx; refine wpList_loadC (off := 0) (p := kcells m T tc S sc) aggKm rfl (.tmp 1) rfl BR.out rfl (by rw [kcells_length]; omega) (by first | rfl | go_simp) ?_)
              | (go_at_call 76; refine (valueOf_any tg (by have := HT1.out; omega) HT2.out m T tc S sc B _ (HK.out.kept G2.out HB.out) (Nat.le_trans HB.out G2.out.size) HNO.out (by have := HC.out; omega) (by have := HS.out; omega)).mono ?_; rw [HLL.out]; rintro e w3 ⟨V, vc, rfl, -, -, g⟩; rw [HNL.out]; have G3 := Lib.hid g; have B3 := Lib.hid (BR.out.kept g); clear TK1 g)
              | (go_at_call 80; refine (sh_slices_Contains_int b off n c ks tg _ (by rw [HN.out]; exact Nat.le_refl _) (by have := HN.out; have := HKN.out; omega) (fun j hj => by obtain ⟨b', off', hA', hb', hc'⟩ := R1.out.open_ (by rw [HN.out]; exact HNP.out); injection hA' with hA'; injection hA' with h1 h2; subst h1 h2; rw [(below_of_none G3.out).cell (p := ⟨b, off + j, none⟩) (Nat.lt_of_lt_of_le hb' GR.out.size)]; exact HCE.out j hj)).mono ?_; rw [HMAX.out, HIN.out]; rintro e w4 ⟨rfl, rfl⟩; have G4 := Lib.hid G3.out; clear G3))
            go_ret
            exact ⟨by rw [← HANS.out, HR.out, HALL.out, HST.out, HSTEP.out, decide_eq_false HZ.out]; rfl, grown_trans' G1.out (grown_trans' GR.out G4.out)⟩
      · obtain rfl : k = 8 := by omega
        have HE := Lib.hid (show okK m = true by rw [HR.out, HALL.out]; rfl)
        clear hlt hk
        go_wp2
        go_ret
        exact ⟨by rw [← HANS.out, HE.out]; rfl, grown_trans' G1.out GR.out⟩
end Go.Proofs.YtnaoagiphehcaaaDoor
