/- The walk of the document's Write (krb). -/
import Derived.Test.YtejmbabeniekhaaDoorKuz
import Derived.Test.YtejmbabeniekhaaDoorKra
import Derived.Test.YtejmbabeniekhaaDoorTkr
import Derived.Test.YtejmbabeniekhaaDoorInl
import Derived.Test.YtejmbabeniekhaaDoorTkd
import Derived.Test.YtejmbabeniekhaaDoorInz
import Derived.Test.YtejmbabeniekhaaDoorKrx
namespace Go.Proofs.YtejmbabeniekhaaDoor
open Go.RowKit

def nil9 : List Value := List.replicate 9 (.slice none 0 0)
theorem zero9 (w : World) : (zeroValue 95).run Tryd.prog w = .ok (.agg nil9.toArray) w := by kernel_rfl
theorem run_build9 (A0 : Option Addr) (n0 c0 : Nat) (A1 : Option Addr) (n1 c1 : Nat) (A2 : Option Addr) (n2 c2 : Nat) (A3 : Option Addr) (n3 c3 : Nat) (A4 : Option Addr) (n4 c4 : Nat) (A5 : Option Addr) (n5 c5 : Nat) (A6 : Option Addr) (n6 c6 : Nat) (A7 : Option Addr) (n7 c7 : Nat) (A8 : Option Addr) (n8 c8 : Nat) (w : World) : (Instr.build 95 #[(0, .slice A0 n0 c0), (1, .slice A1 n1 c1), (2, .slice A2 n2 c2), (3, .slice A3 n3 c3), (4, .slice A4 n4 c4), (5, .slice A5 n5 c5), (6, .slice A6 n6 c6), (7, .slice A7 n7 c7), (8, .slice A8 n8 c8)]).run Tryd.prog w = .ok (.agg [.slice A0 n0 c0, .slice A1 n1 c1, .slice A2 n2 c2, .slice A3 n3 c3, .slice A4 n4 c4, .slice A5 n5 c5, .slice A6 n6 c6, .slice A7 n7 c7, .slice A8 n8 c8].toArray) w := by kernel_rfl
/-- Nine values that can be read as the fields' bytes. -/
def Nine (m : Msg) (x : World) (rows : List Value) : Prop := rows.length = 9 ∧ ∀ i : Nat, i < 9 → ∃ u, rows[i]? = some u ∧ IsB x u (valK m (31 + (i : Int)))
def NineK (m : Msg) (x : World) (v : Value) : Prop := ∃ rows : List Value, v = .agg rows.toArray ∧ Nine m x rows
theorem Nine.kept {m : Msg} {x y : World} {rows : List Value} (h : Nine m x rows) (hg : x.grownBy y none) : Nine m y rows := ⟨h.1, fun i hi => by obtain ⟨u, h1, h2⟩ := h.2 i hi; exact ⟨u, h1, h2.kept hg⟩⟩
theorem nineAll {m : Msg} {x : World} {v0 v1 v2 v3 v4 v5 v6 v7 v8 : Value} (h0 : IsB x v0 (numB (u64n m.kd))) (h1 : IsB x v1 (m.c.data.toList)) (h2 : IsB x v2 (m.s.data.toList)) (h3 : IsB x v3 (numB m.no)) (h4 : IsB x v4 (numB (u64n m.en))) (h5 : IsB x v5 (numB (u64n m.fl))) (h6 : IsB x v6 (m.t)) (h7 : IsB x v7 (m.sl)) (h8 : IsB x v8 (numB (u64n m.co))) : ∀ i : Nat, i < 9 → ∃ u, [v0, v1, v2, v3, v4, v5, v6, v7, v8][i]? = some u ∧ IsB x u (valK m (31 + (i : Int))) := by
  intro i hi
  rcases (show i = 0 ∨ i = 1 ∨ i = 2 ∨ i = 3 ∨ i = 4 ∨ i = 5 ∨ i = 6 ∨ i = 7 ∨ i = 8 by omega) with rfl | rfl | rfl | rfl | rfl | rfl | rfl | rfl | rfl
  · exact ⟨_, rfl, h0⟩
  · exact ⟨_, rfl, h1⟩
  · exact ⟨_, rfl, h2⟩
  · exact ⟨_, rfl, h3⟩
  · exact ⟨_, rfl, h4⟩
  · exact ⟨_, rfl, h5⟩
  · exact ⟨_, rfl, h6⟩
  · exact ⟨_, rfl, h7⟩
  · exact ⟨_, rfl, h8⟩
theorem Nine.one {m : Msg} {x : World} {rows : List Value} (h : Nine m x rows) : ∀ u ∈ rows, u.oneCell' = true := by
  intro u hu
  obtain ⟨i, hi, rfl⟩ := List.getElem_of_mem hu
  obtain ⟨u, h1, h2⟩ := h.2 i (by have := h.1; omega)
  rw [List.getElem?_eq_getElem hi] at h1
  injection h1 with h1
  rw [h1]
  exact h2.one
theorem IsB.aside {w w' : World} {g : Nat} {t : TypeId} {cs : List Value} {v : Value} {l : List UInt8} (h : IsB w v l) (hg : w.grownBy w' (some g)) (hc : CB w g t cs) (hcs : ∀ (i : Nat) (u : UInt8), cs[i]? ≠ some (.int .u8 (u.toNat : Int))) : IsB w' v l := by
  obtain ⟨A, c, hv, hr⟩ := h
  refine ⟨A, c, hv, ?_⟩
  refine hr.apart hg (fun a ha => ?_)
  rcases hr.2.2 with ⟨h1, _⟩ | ⟨a', h1, h2⟩
  · rw [h1] at ha; cases ha
  · rw [h1] at ha
    injection ha with ha
    subst ha
    cases l with
    | nil => exact .inl rfl
    | cons u l =>
      refine .inr (fun he => ?_)
      injection he with he
      have h3 := (h2 0 u rfl).2
      have hz : a'.add 0 = a' := by simp [Addr.add]
      rw [hz] at h3
      have hs : a'.spot = none := World.cell?_spot h3
      obtain ⟨b, off, sp⟩ := a'
      simp only at he hs
      subst he hs
      rw [cell_of_row w g off _ t (0, 0) hc, List.getElem?_toArray] at h3
      exact hcs off u h3
theorem nil9_no : ∀ (i : Nat) (u : UInt8), nil9[i]? ≠ some (.int .u8 (u.toNat : Int)) := by
  intro i u h
  have h1 := List.mem_of_getElem? h
  have h2 := List.eq_of_mem_replicate h1
  cases h2
/-- What the operations of its region yield. -/
def FW (m : Msg) (g0 hd : Nat) : Nat → Value → World → Prop
  | 0, v, _ => v = .pointer (some ⟨g0, 0, none⟩)
  | 1, v, _ => v = .int .i64 m.kd
  | 2, v, _ => v = .int .u64 ((u64n m.kd : Nat) : Int)
  | 3, v, x => IsB x v (numB (u64n m.kd))
  | 4, v, _ => v = .pointer (some ⟨g0, 1, none⟩)
  | 5, v, _ => v = .string m.c
  | 6, v, x => IsB x v m.c.data.toList
  | 7, v, _ => v = .pointer (some ⟨g0, 2, none⟩)
  | 8, v, _ => v = .string m.s
  | 9, v, x => IsB x v m.s.data.toList
  | 10, v, _ => v = .pointer (some ⟨g0, 3, none⟩)
  | 11, v, _ => v = .int .u64 (m.no : Int)
  | 12, v, x => IsB x v (numB m.no)
  | 13, v, _ => v = .pointer (some ⟨g0, 4, none⟩)
  | 14, v, _ => v = .int .i64 m.en
  | 15, v, _ => v = .int .u64 ((u64n m.en : Nat) : Int)
  | 16, v, x => IsB x v (numB (u64n m.en))
  | 17, v, _ => v = .pointer (some ⟨g0, 5, none⟩)
  | 18, v, _ => v = .int .i64 m.fl
  | 19, v, _ => v = .int .u64 ((u64n m.fl : Nat) : Int)
  | 20, v, x => IsB x v (numB (u64n m.fl))
  | 21, v, _ => v = .pointer (some ⟨g0, 6, none⟩)
  | 22, v, x => IsB x v m.t
  | 23, v, _ => v = .pointer (some ⟨g0, 7, none⟩)
  | 24, v, x => IsB x v m.sl
  | 25, v, _ => v = .pointer (some ⟨g0, 8, none⟩)
  | 26, v, _ => v = .int .i64 m.co
  | 27, v, _ => v = .int .u64 ((u64n m.co : Nat) : Int)
  | 28, v, x => IsB x v (numB (u64n m.co))
  | 29, v, x => NineK m x v
  | 30, v, x => ∃ g, v = .pointer (some ⟨g, 0, none⟩) ∧ hd ≤ g ∧ CB x g 95 nil9
  | _, _, _ => True
theorem FW.kept {m : Msg} {g0 hd : Nat} : ∀ (j : Nat) (v : Value) (x y : World), World.grownBy x y none → FW m g0 hd j v x → FW m g0 hd j v y
  | 0, _, _, _, _, h => h
  | 1, _, _, _, _, h => h
  | 2, _, _, _, _, h => h
  | 3, _, _, _, hg, h => IsB.kept h hg
  | 4, _, _, _, _, h => h
  | 5, _, _, _, _, h => h
  | 6, _, _, _, hg, h => IsB.kept h hg
  | 7, _, _, _, _, h => h
  | 8, _, _, _, _, h => h
  | 9, _, _, _, hg, h => IsB.kept h hg
  | 10, _, _, _, _, h => h
  | 11, _, _, _, _, h => h
  | 12, _, _, _, hg, h => IsB.kept h hg
  | 13, _, _, _, _, h => h
  | 14, _, _, _, _, h => h
  | 15, _, _, _, _, h => h
  | 16, _, _, _, hg, h => IsB.kept h hg
  | 17, _, _, _, _, h => h
  | 18, _, _, _, _, h => h
  | 19, _, _, _, _, h => h
  | 20, _, _, _, hg, h => IsB.kept h hg
  | 21, _, _, _, _, h => h
  | 22, _, _, _, hg, h => IsB.kept h hg
  | 23, _, _, _, _, h => h
  | 24, _, _, _, hg, h => IsB.kept h hg
  | 25, _, _, _, _, h => h
  | 26, _, _, _, _, h => h
  | 27, _, _, _, _, h => h
  | 28, _, _, _, hg, h => IsB.kept h hg
  | 29, _, _, _, hg, ⟨rows, hv, hn⟩ => ⟨rows, hv, hn.kept hg⟩
  | 30, _, _, _, hg, ⟨g, hv, hl, hc⟩ => ⟨g, hv, hl, hc.kept hg⟩
  | _ + 31, _, _, _, _, _ => by simp [FW]
/-- What the region leaves. -/
def RWr (m : Msg) (wd : World) (vs : Nat → Value) (x : World) : Prop := ∃ g rows, vs 30 = .pointer (some ⟨g, 0, none⟩) ∧ CB x g 95 rows ∧ Nine m x rows ∧ wd.grownBy x none
/-- The bytes of the fields whose tags are among the first k. -/
def upK (m : Msg) (k : Nat) : List UInt8 := bytesF ((((List.range k).map fun j : Nat => (31 : Int) + (j : Int)).filter fun t => (tagsK m.kd).contains t).map fun t => (t, valK m t))
theorem upK_in {m : Msg} {k : Nat} (h : (tagsK m.kd).contains (31 + (k : Int)) = true) : upK m (k + 1) = upK m k ++ fieldB (31 + (k : Int), valK m (31 + (k : Int))) := by
  unfold upK bytesF
  rw [List.range_succ, List.map_append, List.filter_append, List.map_append, List.flatMap_append, List.map_cons, List.map_nil, List.filter_cons, if_pos h]
  simp
theorem upK_out {m : Msg} {k : Nat} (h : (tagsK m.kd).contains (31 + (k : Int)) = false) : upK m (k + 1) = upK m k := by
  unfold upK bytesF
  rw [List.range_succ, List.map_append, List.filter_append, List.map_append, List.flatMap_append, List.map_cons, List.map_nil, List.filter_cons, if_neg (by rw [h]; simp)]
  simp
theorem tagsK_sift (k : Int) : (((List.range 9).map fun j : Nat => (31 : Int) + (j : Int)).filter fun t => (tagsK k).contains t) = tagsK k := by
  by_cases h : k < 1 ∨ 7 < k
  · have ht : tagsK k = [] := by
      unfold tagsK
      repeat rw [if_neg (by omega)]
    rw [ht]
    rfl
  · rcases (show k = 1 ∨ k = 2 ∨ k = 3 ∨ k = 4 ∨ k = 5 ∨ k = 6 ∨ k = 7 by omega) with rfl | rfl | rfl | rfl | rfl | rfl | rfl <;> decide
theorem wrap_smallV (n : Int) (h0 : -9223372036854775808 ≤ n) (h1 : n ≤ 9223372036854775807) : IntKind.i64.wrap n = n := by
  have h : IntKind.i64.wrap n = if 9223372036854775808 ≤ n % 18446744073709551616 then n % 18446744073709551616 - 18446744073709551616 else n % 18446744073709551616 := by
    simp [IntKind.wrap, IntKind.bits, IntKind.signed]
  rw [h]
  split <;> omega
theorem upK_nine (m : Msg) : upK m 9 = bytesK m := by unfold upK bytesK fieldsK; rw [tagsK_sift]
theorem valK_len {m : Msg} (h : lensK m) (t : Int) : (valK m t).length ≤ 60000 := by
  obtain ⟨h1, h2, h3, h4⟩ := h
  have e1 : m.c.data.toList.length = m.c.size := rfl
  have e2 : m.s.data.toList.length = m.s.size := rfl
  have n1 := numB_length (u64n m.kd)
  have n2 := numB_length m.no
  have n3 := numB_length (u64n m.en)
  have n4 := numB_length (u64n m.fl)
  have n5 := numB_length (u64n m.co)
  unfold valK
  repeat' split
  all_goals first | omega | (simp; done)
theorem upK_len {m : Msg} (h : lensK m) : ∀ k, (upK m k).length ≤ 70000 * k
  | 0 => by simp [upK, bytesF]
  | k + 1 => by
    have ih := upK_len h k
    cases hc : (tagsK m.kd).contains (31 + (k : Int)) with
    | true =>
      rw [upK_in hc, List.length_append, fieldB_length]
      have := valK_len h (31 + (k : Int))
      simp only
      omega
    | false => rw [upK_out hc]; omega
set_option maxRecDepth 10000 in
set_option maxHeartbeats 4000000 in
theorem refKWrite_no (m : Msg) (T : Option Addr) (tc : Nat) (S : Option Addr) (sc : Nat) (w : World) (h1 : I64k m.en) (h2 : I64k m.fl) (h3 : I64k m.co) (hc : m.c.size ≤ 10000) (hs : m.s.size ≤ 10000) (hok : okK m = false) :
    Calls Tryd.prog 14 #[.agg (kcells m T tc S sc).toArray] w fun e w' => WroteR w false (bytesK m) e w' := by
  have B0 := Lib.hid (CB.new w 25 (kcells m T tc S sc))
  have G0 := Lib.hid (grown_alloc w (.cells (kcells m T tc S sc).toArray 25) none)
  have HR := Lib.hid (fun wx => refRight_any m T tc S sc wx h1 h2 h3 hc hs)
  have HOK := Lib.hid hok
  clear h1 h2 h3 hc hs hok
  go_enter Tryd.func14, Tryd.ntmps14
  go_wp2_with (first
    | refine wpList_loadC (off := 0) (p := kcells m T tc S sc) aggKm rfl (.tmp 1) rfl B0.out rfl (by rw [kcells_length]; omega) (by first | rfl | go_simp) ?_
    | (go_at_call 44; refine (HR.out _).mono ?_; rintro e w1 ⟨rfl, g1⟩; rw [HOK.out]; have G1 := Lib.hid (grown_trans' G0.out g1); clear g1))
  go_ret2
  exact WroteR.no ⟨_, _, rfl, Nat.le_refl _, Nat.zero_le _, .inr ⟨_, rfl, fun k u hu => by simp at hu⟩⟩ (grown_trans' G1.out (grown_alloc _ _ _))
set_option maxRecDepth 10000 in
set_option maxHeartbeats 8000000 in
theorem refKWrite_yes (m : Msg) (T : Option Addr) (tc : Nat) (S : Option Addr) (sc B : Nat) (w : World) (h : KM w B m T tc S sc) (hB : B ≤ w.heap.size) (hno : m.no < 18446744073709551616) (h1 : I64k m.en) (h2 : I64k m.fl) (h3 : I64k m.co) (hl : lensK m) (hok : okK m = true) :
    Calls Tryd.prog 14 #[.agg (kcells m T tc S sc).toArray] w fun e w' => WroteR w true (bytesK m) e w' := by
  have B0 := Lib.hid (CB.new w 25 (kcells m T tc S sc))
  have G0 := Lib.hid (grown_alloc w (.cells (kcells m T tc S sc).toArray 25) none)
  have hc := hl.1
  have hs := hl.2.1
  have HR := Lib.hid (fun wx => refRight_any m T tc S sc wx h1 h2 h3 hc hs)
  have HOK := Lib.hid hok
  have HL := Lib.hid hl
  have HNO := Lib.hid hno
  have K0 := Lib.hid h
  have HB0 := Lib.hid hB
  have HSZc := Lib.hid (show m.c.size ≤ 70368744177664 by omega)
  have HSZs := Lib.hid (show m.s.size ≤ 70368744177664 by omega)
  clear h hB hno h1 h2 h3 hc hs hl hok
  go_enter Tryd.func14, Tryd.ntmps14
  go_wp2_with (first
    | refine wpList_loadC (off := 0) (p := kcells m T tc S sc) aggKm rfl (.tmp 1) rfl B0.out rfl (by rw [kcells_length]; omega) (by first | rfl | go_simp) ?_
    | (go_at_call 44; refine (HR.out _).mono ?_; rintro e w1 ⟨rfl, g1⟩; rw [HOK.out]; have G1 := Lib.hid (grown_trans' G0.out g1); have B1 := Lib.hid (B0.out.kept g1); clear g1))
  have K4 := Lib.hid (show KM w1.drew B m T tc S sc from K0.out.kept (grown_drew G1.out) HB0.out)
  have HB4 := Lib.hid (show B ≤ w1.drew.heap.size from Nat.le_trans HB0.out G1.out.size)
  have B4 := Lib.hid (show CB w1.drew w.heap.size 25 (kcells m T tc S sc) from B1.out)
  have G4 := Lib.hid (grown_drew G1.out)
  obtain ⟨g0, hg0⟩ : ∃ g, w.heap.size = g := ⟨_, rfl⟩
  rw [hg0] at B4 ⊢
  refine region_last 31 [some 11, some 12, some 13, some 14, some 15, some 16, some 17, some 18, some 19, some 20, some 21, some 22, some 23, some 24, some 25, some 26, some 27, some 28, some 29, some 30, some 31, some 32, some 33, some 34, some 35, some 36, some 37, some 38, some 39, some 40, some 4, none] (fun x => World.grownBy w1.drew x none) (FW m g0 w1.drew.heap.size) (RWr m w1.drew) (by kernel_rfl) (by kernel_rfl) rfl (by kernel_rfl) (by kernel_rfl) (fun x y hg h => grown_trans' h hg) (fun j v x y hg _ h => FW.kept j v x y hg h) (World.grownBy.refl _ _) ⟨⟨⟨⟨⟨⟨⟨⟨⟨⟨⟨⟨⟨⟨⟨⟨⟨⟨⟨⟨⟨⟨⟨⟨⟨⟨⟨⟨⟨⟨⟨trivial, ?_⟩, ?_⟩, ?_⟩, ?_⟩, ?_⟩, ?_⟩, ?_⟩, ?_⟩, ?_⟩, ?_⟩, ?_⟩, ?_⟩, ?_⟩, ?_⟩, ?_⟩, ?_⟩, ?_⟩, ?_⟩, ?_⟩, ?_⟩, ?_⟩, ?_⟩, ?_⟩, ?_⟩, ?_⟩, ?_⟩, ?_⟩, ?_⟩, ?_⟩, ?_⟩, ?_⟩ ?_ ?_ ?_
  · refine Inv.duty_plain rfl rfl (fun L vs a x hG dep up val ev out K hK => ?_)
    have e1 : a.eval (.tmp 1) = .pointer (some ⟨g0, 0, none⟩) := (out 1 (by kernel_rfl)).trans rfl
    refine Inv.wp_value (v := .pointer (some ⟨g0, 0, none⟩)) ?_ (hK.out _ _ (World.grownBy.refl x _) rfl)
    clear hK K dep up val ev out
    generalize a.eval = ρ at *
    (simp [execOp, go_sem, *]; done)
  · refine Inv.duty_plain rfl rfl (fun L vs a x hG dep up val ev out K hK => ?_)
    have L11 := dep 0 (by kernel_rfl)
    have e11 : a.eval (.tmp 11) = .pointer (some ⟨g0, 0, none⟩) := (ev 0 11 L11 (by kernel_rfl)).trans (val 0 L11)
    have hcell : x.cell? ⟨g0, 0, none⟩ = some (.int .i64 m.kd) := (B4.out.kept hG).at_ (i := 0) rfl
    refine Inv.wp_value (v := .int .i64 m.kd) ?_ (hK.out _ _ (World.grownBy.refl x _) rfl)
    clear hK K dep up val ev out
    generalize a.eval = ρ at *
    (simp [execOp, go_sem, *]; done)
  · refine Inv.duty_plain rfl rfl (fun L vs a x hG dep up val ev out K hK => ?_)
    have L12 := dep 1 (by kernel_rfl)
    have e12 : a.eval (.tmp 12) = .int .i64 m.kd := (ev 1 12 L12 (by kernel_rfl)).trans (val 1 L12)
    have hwr := u64n_wrap m.kd
    refine Inv.wp_value (v := .int .u64 ((u64n m.kd : Nat) : Int)) ?_ (hK.out _ _ (World.grownBy.refl x _) rfl)
    clear hK K dep up val ev out
    generalize a.eval = ρ at *
    (simp [execOp, go_sem, *]; done)
  · refine Inv.duty_plain rfl rfl (fun L vs a x hG dep up val ev out K hK => ?_)
    have ef : ∀ f, a.eval (.func f) = .func (.func f) #[] #[] := fun _ => rfl
    have L13 := dep 2 (by kernel_rfl)
    have e13 : a.eval (.tmp 13) = .int .u64 ((u64n m.kd : Nat) : Int) := (ev 2 13 L13 (by kernel_rfl)).trans (val 2 L13)
    refine Inv.wp_call (by clear hK K dep up val ev out; generalize a.eval = ρ at *; (simp [execOp, go_sem, *]; done)) ((refNum_any (u64n m.kd) x (u64n_lt _)).mono ?_)
    rintro e w' ⟨v, rfl, o, b⟩
    exact ⟨v, rfl, hK.out _ _ (none_of_below b (Nat.le_refl _)) o.isB⟩
  · refine Inv.duty_plain rfl rfl (fun L vs a x hG dep up val ev out K hK => ?_)
    have e1 : a.eval (.tmp 1) = .pointer (some ⟨g0, 0, none⟩) := (out 1 (by kernel_rfl)).trans rfl
    refine Inv.wp_value (v := .pointer (some ⟨g0, 1, none⟩)) ?_ (hK.out _ _ (World.grownBy.refl x _) rfl)
    clear hK K dep up val ev out
    generalize a.eval = ρ at *
    (simp [execOp, go_sem, *]; done)
  · refine Inv.duty_plain rfl rfl (fun L vs a x hG dep up val ev out K hK => ?_)
    have L15 := dep 4 (by kernel_rfl)
    have e15 : a.eval (.tmp 15) = .pointer (some ⟨g0, 1, none⟩) := (ev 4 15 L15 (by kernel_rfl)).trans (val 4 L15)
    have hcell : x.cell? ⟨g0, 1, none⟩ = some (.string m.c) := (B4.out.kept hG).at_ (i := 1) rfl
    refine Inv.wp_value (v := .string m.c) ?_ (hK.out _ _ (World.grownBy.refl x _) rfl)
    clear hK K dep up val ev out
    generalize a.eval = ρ at *
    (simp [execOp, go_sem, *]; done)
  · refine Inv.duty_plain rfl rfl (fun L vs a x hG dep up val ev out K hK => ?_)
    have L16 := dep 5 (by kernel_rfl)
    have e16 : a.eval (.tmp 16) = .string m.c := (ev 5 16 L16 (by kernel_rfl)).trans (val 5 L16)
    refine wp_convG byteT Tryd.underlying9 rfl (.tmp 16) rfl m.c HSZc.out e16 ?_
    intro v w' o g _
    exact hK.out _ _ g o.isB
  · refine Inv.duty_plain rfl rfl (fun L vs a x hG dep up val ev out K hK => ?_)
    have e1 : a.eval (.tmp 1) = .pointer (some ⟨g0, 0, none⟩) := (out 1 (by kernel_rfl)).trans rfl
    refine Inv.wp_value (v := .pointer (some ⟨g0, 2, none⟩)) ?_ (hK.out _ _ (World.grownBy.refl x _) rfl)
    clear hK K dep up val ev out
    generalize a.eval = ρ at *
    (simp [execOp, go_sem, *]; done)
  · refine Inv.duty_plain rfl rfl (fun L vs a x hG dep up val ev out K hK => ?_)
    have L18 := dep 7 (by kernel_rfl)
    have e18 : a.eval (.tmp 18) = .pointer (some ⟨g0, 2, none⟩) := (ev 7 18 L18 (by kernel_rfl)).trans (val 7 L18)
    have hcell : x.cell? ⟨g0, 2, none⟩ = some (.string m.s) := (B4.out.kept hG).at_ (i := 2) rfl
    refine Inv.wp_value (v := .string m.s) ?_ (hK.out _ _ (World.grownBy.refl x _) rfl)
    clear hK K dep up val ev out
    generalize a.eval = ρ at *
    (simp [execOp, go_sem, *]; done)
  · refine Inv.duty_plain rfl rfl (fun L vs a x hG dep up val ev out K hK => ?_)
    have L19 := dep 8 (by kernel_rfl)
    have e19 : a.eval (.tmp 19) = .string m.s := (ev 8 19 L19 (by kernel_rfl)).trans (val 8 L19)
    refine wp_convG byteT Tryd.underlying9 rfl (.tmp 19) rfl m.s HSZs.out e19 ?_
    intro v w' o g _
    exact hK.out _ _ g o.isB
  · refine Inv.duty_plain rfl rfl (fun L vs a x hG dep up val ev out K hK => ?_)
    have e1 : a.eval (.tmp 1) = .pointer (some ⟨g0, 0, none⟩) := (out 1 (by kernel_rfl)).trans rfl
    refine Inv.wp_value (v := .pointer (some ⟨g0, 3, none⟩)) ?_ (hK.out _ _ (World.grownBy.refl x _) rfl)
    clear hK K dep up val ev out
    generalize a.eval = ρ at *
    (simp [execOp, go_sem, *]; done)
  · refine Inv.duty_plain rfl rfl (fun L vs a x hG dep up val ev out K hK => ?_)
    have L21 := dep 10 (by kernel_rfl)
    have e21 : a.eval (.tmp 21) = .pointer (some ⟨g0, 3, none⟩) := (ev 10 21 L21 (by kernel_rfl)).trans (val 10 L21)
    have hcell : x.cell? ⟨g0, 3, none⟩ = some (.int .u64 (m.no : Int)) := (B4.out.kept hG).at_ (i := 3) rfl
    refine Inv.wp_value (v := .int .u64 (m.no : Int)) ?_ (hK.out _ _ (World.grownBy.refl x _) rfl)
    clear hK K dep up val ev out
    generalize a.eval = ρ at *
    (simp [execOp, go_sem, *]; done)
  · refine Inv.duty_plain rfl rfl (fun L vs a x hG dep up val ev out K hK => ?_)
    have ef : ∀ f, a.eval (.func f) = .func (.func f) #[] #[] := fun _ => rfl
    have L22 := dep 11 (by kernel_rfl)
    have e22 : a.eval (.tmp 22) = .int .u64 (m.no : Int) := (ev 11 22 L22 (by kernel_rfl)).trans (val 11 L22)
    refine Inv.wp_call (by clear hK K dep up val ev out; generalize a.eval = ρ at *; (simp [execOp, go_sem, *]; done)) ((refNum_any m.no x HNO.out).mono ?_)
    rintro e w' ⟨v, rfl, o, b⟩
    exact ⟨v, rfl, hK.out _ _ (none_of_below b (Nat.le_refl _)) o.isB⟩
  · refine Inv.duty_plain rfl rfl (fun L vs a x hG dep up val ev out K hK => ?_)
    have e1 : a.eval (.tmp 1) = .pointer (some ⟨g0, 0, none⟩) := (out 1 (by kernel_rfl)).trans rfl
    refine Inv.wp_value (v := .pointer (some ⟨g0, 4, none⟩)) ?_ (hK.out _ _ (World.grownBy.refl x _) rfl)
    clear hK K dep up val ev out
    generalize a.eval = ρ at *
    (simp [execOp, go_sem, *]; done)
  · refine Inv.duty_plain rfl rfl (fun L vs a x hG dep up val ev out K hK => ?_)
    have L24 := dep 13 (by kernel_rfl)
    have e24 : a.eval (.tmp 24) = .pointer (some ⟨g0, 4, none⟩) := (ev 13 24 L24 (by kernel_rfl)).trans (val 13 L24)
    have hcell : x.cell? ⟨g0, 4, none⟩ = some (.int .i64 m.en) := (B4.out.kept hG).at_ (i := 4) rfl
    refine Inv.wp_value (v := .int .i64 m.en) ?_ (hK.out _ _ (World.grownBy.refl x _) rfl)
    clear hK K dep up val ev out
    generalize a.eval = ρ at *
    (simp [execOp, go_sem, *]; done)
  · refine Inv.duty_plain rfl rfl (fun L vs a x hG dep up val ev out K hK => ?_)
    have L25 := dep 14 (by kernel_rfl)
    have e25 : a.eval (.tmp 25) = .int .i64 m.en := (ev 14 25 L25 (by kernel_rfl)).trans (val 14 L25)
    have hwr := u64n_wrap m.en
    refine Inv.wp_value (v := .int .u64 ((u64n m.en : Nat) : Int)) ?_ (hK.out _ _ (World.grownBy.refl x _) rfl)
    clear hK K dep up val ev out
    generalize a.eval = ρ at *
    (simp [execOp, go_sem, *]; done)
  · refine Inv.duty_plain rfl rfl (fun L vs a x hG dep up val ev out K hK => ?_)
    have ef : ∀ f, a.eval (.func f) = .func (.func f) #[] #[] := fun _ => rfl
    have L26 := dep 15 (by kernel_rfl)
    have e26 : a.eval (.tmp 26) = .int .u64 ((u64n m.en : Nat) : Int) := (ev 15 26 L26 (by kernel_rfl)).trans (val 15 L26)
    refine Inv.wp_call (by clear hK K dep up val ev out; generalize a.eval = ρ at *; (simp [execOp, go_sem, *]; done)) ((refNum_any (u64n m.en) x (u64n_lt _)).mono ?_)
    rintro e w' ⟨v, rfl, o, b⟩
    exact ⟨v, rfl, hK.out _ _ (none_of_below b (Nat.le_refl _)) o.isB⟩
  · refine Inv.duty_plain rfl rfl (fun L vs a x hG dep up val ev out K hK => ?_)
    have e1 : a.eval (.tmp 1) = .pointer (some ⟨g0, 0, none⟩) := (out 1 (by kernel_rfl)).trans rfl
    refine Inv.wp_value (v := .pointer (some ⟨g0, 5, none⟩)) ?_ (hK.out _ _ (World.grownBy.refl x _) rfl)
    clear hK K dep up val ev out
    generalize a.eval = ρ at *
    (simp [execOp, go_sem, *]; done)
  · refine Inv.duty_plain rfl rfl (fun L vs a x hG dep up val ev out K hK => ?_)
    have L28 := dep 17 (by kernel_rfl)
    have e28 : a.eval (.tmp 28) = .pointer (some ⟨g0, 5, none⟩) := (ev 17 28 L28 (by kernel_rfl)).trans (val 17 L28)
    have hcell : x.cell? ⟨g0, 5, none⟩ = some (.int .i64 m.fl) := (B4.out.kept hG).at_ (i := 5) rfl
    refine Inv.wp_value (v := .int .i64 m.fl) ?_ (hK.out _ _ (World.grownBy.refl x _) rfl)
    clear hK K dep up val ev out
    generalize a.eval = ρ at *
    (simp [execOp, go_sem, *]; done)
  · refine Inv.duty_plain rfl rfl (fun L vs a x hG dep up val ev out K hK => ?_)
    have L29 := dep 18 (by kernel_rfl)
    have e29 : a.eval (.tmp 29) = .int .i64 m.fl := (ev 18 29 L29 (by kernel_rfl)).trans (val 18 L29)
    have hwr := u64n_wrap m.fl
    refine Inv.wp_value (v := .int .u64 ((u64n m.fl : Nat) : Int)) ?_ (hK.out _ _ (World.grownBy.refl x _) rfl)
    clear hK K dep up val ev out
    generalize a.eval = ρ at *
    (simp [execOp, go_sem, *]; done)
  · refine Inv.duty_plain rfl rfl (fun L vs a x hG dep up val ev out K hK => ?_)
    have ef : ∀ f, a.eval (.func f) = .func (.func f) #[] #[] := fun _ => rfl
    have L30 := dep 19 (by kernel_rfl)
    have e30 : a.eval (.tmp 30) = .int .u64 ((u64n m.fl : Nat) : Int) := (ev 19 30 L30 (by kernel_rfl)).trans (val 19 L30)
    refine Inv.wp_call (by clear hK K dep up val ev out; generalize a.eval = ρ at *; (simp [execOp, go_sem, *]; done)) ((refNum_any (u64n m.fl) x (u64n_lt _)).mono ?_)
    rintro e w' ⟨v, rfl, o, b⟩
    exact ⟨v, rfl, hK.out _ _ (none_of_below b (Nat.le_refl _)) o.isB⟩
  · refine Inv.duty_plain rfl rfl (fun L vs a x hG dep up val ev out K hK => ?_)
    have e1 : a.eval (.tmp 1) = .pointer (some ⟨g0, 0, none⟩) := (out 1 (by kernel_rfl)).trans rfl
    refine Inv.wp_value (v := .pointer (some ⟨g0, 6, none⟩)) ?_ (hK.out _ _ (World.grownBy.refl x _) rfl)
    clear hK K dep up val ev out
    generalize a.eval = ρ at *
    (simp [execOp, go_sem, *]; done)
  · refine Inv.duty_plain rfl rfl (fun L vs a x hG dep up val ev out K hK => ?_)
    have L32 := dep 21 (by kernel_rfl)
    have e32 : a.eval (.tmp 32) = .pointer (some ⟨g0, 6, none⟩) := (ev 21 32 L32 (by kernel_rfl)).trans (val 21 L32)
    have hcell : x.cell? ⟨g0, 6, none⟩ = some (.slice T m.t.length tc) := (B4.out.kept hG).at_ (i := 6) rfl
    refine Inv.wp_value (v := .slice T m.t.length tc) ?_ (hK.out _ _ (World.grownBy.refl x _) ⟨T, tc, rfl, (K4.out.kept hG HB4.out).1.more (Nat.le_trans HB4.out hG.size)⟩)
    clear hK K dep up val ev out
    generalize a.eval = ρ at *
    (simp [execOp, go_sem, *]; done)
  · refine Inv.duty_plain rfl rfl (fun L vs a x hG dep up val ev out K hK => ?_)
    have e1 : a.eval (.tmp 1) = .pointer (some ⟨g0, 0, none⟩) := (out 1 (by kernel_rfl)).trans rfl
    refine Inv.wp_value (v := .pointer (some ⟨g0, 7, none⟩)) ?_ (hK.out _ _ (World.grownBy.refl x _) rfl)
    clear hK K dep up val ev out
    generalize a.eval = ρ at *
    (simp [execOp, go_sem, *]; done)
  · refine Inv.duty_plain rfl rfl (fun L vs a x hG dep up val ev out K hK => ?_)
    have L34 := dep 23 (by kernel_rfl)
    have e34 : a.eval (.tmp 34) = .pointer (some ⟨g0, 7, none⟩) := (ev 23 34 L34 (by kernel_rfl)).trans (val 23 L34)
    have hcell : x.cell? ⟨g0, 7, none⟩ = some (.slice S m.sl.length sc) := (B4.out.kept hG).at_ (i := 7) rfl
    refine Inv.wp_value (v := .slice S m.sl.length sc) ?_ (hK.out _ _ (World.grownBy.refl x _) ⟨S, sc, rfl, (K4.out.kept hG HB4.out).2.more (Nat.le_trans HB4.out hG.size)⟩)
    clear hK K dep up val ev out
    generalize a.eval = ρ at *
    (simp [execOp, go_sem, *]; done)
  · refine Inv.duty_plain rfl rfl (fun L vs a x hG dep up val ev out K hK => ?_)
    have e1 : a.eval (.tmp 1) = .pointer (some ⟨g0, 0, none⟩) := (out 1 (by kernel_rfl)).trans rfl
    refine Inv.wp_value (v := .pointer (some ⟨g0, 8, none⟩)) ?_ (hK.out _ _ (World.grownBy.refl x _) rfl)
    clear hK K dep up val ev out
    generalize a.eval = ρ at *
    (simp [execOp, go_sem, *]; done)
  · refine Inv.duty_plain rfl rfl (fun L vs a x hG dep up val ev out K hK => ?_)
    have L36 := dep 25 (by kernel_rfl)
    have e36 : a.eval (.tmp 36) = .pointer (some ⟨g0, 8, none⟩) := (ev 25 36 L36 (by kernel_rfl)).trans (val 25 L36)
    have hcell : x.cell? ⟨g0, 8, none⟩ = some (.int .i64 m.co) := (B4.out.kept hG).at_ (i := 8) rfl
    refine Inv.wp_value (v := .int .i64 m.co) ?_ (hK.out _ _ (World.grownBy.refl x _) rfl)
    clear hK K dep up val ev out
    generalize a.eval = ρ at *
    (simp [execOp, go_sem, *]; done)
  · refine Inv.duty_plain rfl rfl (fun L vs a x hG dep up val ev out K hK => ?_)
    have L37 := dep 26 (by kernel_rfl)
    have e37 : a.eval (.tmp 37) = .int .i64 m.co := (ev 26 37 L37 (by kernel_rfl)).trans (val 26 L37)
    have hwr := u64n_wrap m.co
    refine Inv.wp_value (v := .int .u64 ((u64n m.co : Nat) : Int)) ?_ (hK.out _ _ (World.grownBy.refl x _) rfl)
    clear hK K dep up val ev out
    generalize a.eval = ρ at *
    (simp [execOp, go_sem, *]; done)
  · refine Inv.duty_plain rfl rfl (fun L vs a x hG dep up val ev out K hK => ?_)
    have ef : ∀ f, a.eval (.func f) = .func (.func f) #[] #[] := fun _ => rfl
    have L38 := dep 27 (by kernel_rfl)
    have e38 : a.eval (.tmp 38) = .int .u64 ((u64n m.co : Nat) : Int) := (ev 27 38 L38 (by kernel_rfl)).trans (val 27 L38)
    refine Inv.wp_call (by clear hK K dep up val ev out; generalize a.eval = ρ at *; (simp [execOp, go_sem, *]; done)) ((refNum_any (u64n m.co) x (u64n_lt _)).mono ?_)
    rintro e w' ⟨v, rfl, o, b⟩
    exact ⟨v, rfl, hK.out _ _ (none_of_below b (Nat.le_refl _)) o.isB⟩
  · refine Inv.duty_plain rfl rfl (fun L vs a x hG dep up val ev out K hK => ?_)
    have L14 := dep 3 (by kernel_rfl)
    have e14 := ev 3 14 L14 (by kernel_rfl)
    have f14 := val 3 L14
    have L17 := dep 6 (by kernel_rfl)
    have e17 := ev 6 17 L17 (by kernel_rfl)
    have f17 := val 6 L17
    have L20 := dep 9 (by kernel_rfl)
    have e20 := ev 9 20 L20 (by kernel_rfl)
    have f20 := val 9 L20
    have L23 := dep 12 (by kernel_rfl)
    have e23 := ev 12 23 L23 (by kernel_rfl)
    have f23 := val 12 L23
    have L27 := dep 16 (by kernel_rfl)
    have e27 := ev 16 27 L27 (by kernel_rfl)
    have f27 := val 16 L27
    have L31 := dep 20 (by kernel_rfl)
    have e31 := ev 20 31 L31 (by kernel_rfl)
    have f31 := val 20 L31
    have L33 := dep 22 (by kernel_rfl)
    have e33 := ev 22 33 L33 (by kernel_rfl)
    have f33 := val 22 L33
    have L35 := dep 24 (by kernel_rfl)
    have e35 := ev 24 35 L35 (by kernel_rfl)
    have f35 := val 24 L35
    have L39 := dep 28 (by kernel_rfl)
    have e39 := ev 28 39 L39 (by kernel_rfl)
    have f39 := val 28 L39
    have g0 := f14
    obtain ⟨A0, c0, h0, r0⟩ := f14
    rw [h0] at e14 g0
    have g1 := f17
    obtain ⟨A1, c1, h1, r1⟩ := f17
    rw [h1] at e17 g1
    have g2 := f20
    obtain ⟨A2, c2, h2, r2⟩ := f20
    rw [h2] at e20 g2
    have g3 := f23
    obtain ⟨A3, c3, h3, r3⟩ := f23
    rw [h3] at e23 g3
    have g4 := f27
    obtain ⟨A4, c4, h4, r4⟩ := f27
    rw [h4] at e27 g4
    have g5 := f31
    obtain ⟨A5, c5, h5, r5⟩ := f31
    rw [h5] at e31 g5
    have g6 := f33
    obtain ⟨A6, c6, h6, r6⟩ := f33
    rw [h6] at e33 g6
    have g7 := f35
    obtain ⟨A7, c7, h7, r7⟩ := f35
    rw [h7] at e35 g7
    have g8 := f39
    obtain ⟨A8, c8, h8, r8⟩ := f39
    rw [h8] at e39 g8
    refine wp_buildV rfl (by simp [e14, e17, e20, e23, e27, e31, e33, e35, e39]) (run_build9 A0 (numB (u64n m.kd)).length c0 A1 (m.c.data.toList).length c1 A2 (m.s.data.toList).length c2 A3 (numB m.no).length c3 A4 (numB (u64n m.en)).length c4 A5 (numB (u64n m.fl)).length c5 A6 (m.t).length c6 A7 (m.sl).length c7 A8 (numB (u64n m.co)).length c8 x) (hK.out _ _ (World.grownBy.refl x _) ⟨_, rfl, rfl, ?_⟩)
    exact nineAll g0 g1 g2 g3 g4 g5 g6 g7 g8
  · refine Inv.duty_plain rfl rfl (fun L vs a x hG dep up val ev out K hK => ?_)
    exact Inv.wp_allocC zero9 rfl (hK.out _ _ (grown_alloc _ _ _) ⟨_, rfl, hG.size, CB.new x _ _⟩)
  · intro o ho
    injection ho with ho
    subst ho
    refine ⟨rfl, fun vs a x hG hF ev out K hK => ?_⟩
    obtain ⟨g, hp, hl, hc⟩ : ∃ g, vs 30 = .pointer (some ⟨g, 0, none⟩) ∧ w1.drew.heap.size ≤ g ∧ CB x g 95 nil9 := hF 30 (by omega)
    obtain ⟨rows, hv, hn⟩ : NineK m x (vs 29) := hF 29 (by omega)
    have e1 : a.eval (.tmp 4) = .pointer (some ⟨g, 0, none⟩) := (ev 30 4 (by omega) (by kernel_rfl)).trans hp
    have e2 : a.eval (.tmp 40) = .agg rows.toArray := (ev 29 40 (by omega) (by kernel_rfl)).trans hv
    refine wp_storeC (d := none) (off := 0) (p := rows) (n := 9) (by kernel_rfl) rfl (.tmp 4) (.tmp 40) rfl (.agg rows.toArray) rfl hn.one hc hn.1 (by rw [nil9, List.length_replicate]; omega) e1 e2 ?_
    intro w' hc' hg'
    rw [over_all _ _ (by rw [nil9, List.length_replicate, hn.1]; try omega)] at hc'
    refine hK.out _ _ ⟨g, rows, hp, hc', ⟨hn.1, fun i hi => ?_⟩, none_new hG hg' hl⟩
    obtain ⟨u, h1, h2⟩ := hn.2 i hi
    exact ⟨u, h1, h2.aside hg' hc nil9_no⟩
  · rintro vs vs' x hvv ⟨g, rows, h1, h2⟩
    exact ⟨g, rows, (hvv 30 (by omega)).symm.trans h1, h2⟩
  · rintro vs w' ⟨g, rows, hp, hc, hn, hg⟩
    simp only [Inv.putAll, Act.put, List.setIfInBounds_toArray, List.set_cons_zero, List.set_cons_succ, Nat.zero_add, Nat.reduceAdd]
    rw [hp]
    have HC := Lib.hid hc
    have HN := Lib.hid hn
    have HG := Lib.hid (grown_trans' G4.out hg)
    have HB := Lib.hid (B4.out.kept hg)
    clear hp hc hn hg K4 HB4 B4 G4
    go_wp2
    go_loopw [5, 6] (fun v i wr => ∃ k : Nat, i = .int .i64 k ∧ k ≤ 9 ∧ OwnB wr w'.heap.size 5 v (upK m k) ∧ w'.grownBy wr none) (fun _ i _ => 9 - (intOf i).toNat)
    case atStart => exact ⟨0, rfl, Nat.zero_le _, OwnB.new0 _ _ _ (Nat.le_refl _), grown_alloc _ _ _⟩
    case round =>
      obtain ⟨k, rfl, hk, hown, hg⟩ := hrel
      have HOWN := Lib.hid hown
      have GR := Lib.hid hg
      have q0 := (HB.out.kept hg).at_ (i := 0) (v := .int .i64 m.kd) rfl
      clear hown hg
      by_cases hlt : k < 9
      · have hlti : (k : Int) < 9 := by omega
        obtain ⟨t, ht⟩ : ∃ t : Int, 31 + (k : Int) = t := ⟨_, rfl⟩
        have hw : IntKind.i64.wrap (31 + (k : Int)) = t := by rw [ht]; exact wrap_smallV t (by omega) (by omega)
        have HT1 := Lib.hid (show 1 ≤ t by omega)
        have HT2 := Lib.hid (show t ≤ 255 by omega)
        cases hc : (tagsK m.kd).contains t with
        | false =>
          have HCT := Lib.hid hc
          have HU := Lib.hid (show upK m (k + 1) = upK m k from upK_out (by rw [ht]; exact hc))
          clear hc
          go_wp2_with (go_at_call 46; (try rw [ht]); refine (refHas_any _ _ _).mono ?_; rintro r wn ⟨rfl, gn⟩; rw [HCT.out]; have GN := Lib.hid (grown_trans' GR.out gn); have ON := Lib.hid (HOWN.out.below (below_of_none gn)); clear gn)
          go_roundw
          case rel => exact ⟨k + 1, by go_num, by omega, by rw [HU.out]; exact ON.out, GN.out⟩
          case measure => first | (simp [intOf]; done) | (simp [intOf]; omega)
        | true =>
          obtain ⟨u, hu1, hu2⟩ := HN.out.2 k hlt
          rw [ht] at hu2
          obtain ⟨L, hL⟩ : ∃ L, valK m t = L := ⟨_, rfl⟩
          rw [hL] at hu2
          obtain ⟨V, vc, rfl, hr⟩ := hu2
          obtain ⟨n, hn⟩ : ∃ n, L.length = n := ⟨_, rfl⟩
          rw [hn] at hu1
          obtain ⟨F, hF⟩ : ∃ F, fieldB (t, L) = F := ⟨_, rfl⟩
          obtain ⟨nf, hnf⟩ : ∃ n, F.length = n := ⟨_, rfl⟩
          have HNL := Lib.hid hn
          have HF := Lib.hid hF
          have HNF := Lib.hid hnf
          have hl6 : n ≤ 60000 := by rw [← hn, ← hL]; exact valK_len HL.out t
          have HL6 := Lib.hid hl6
          have HLF := Lib.hid (show nf ≤ 60003 by rw [← hnf, ← hF, fieldB_length]; simp only; omega)
          have HLU := Lib.hid (show (upK m k).length ≤ 70000 * 9 from Nat.le_trans (upK_len HL.out k) (by omega))
          have HU := Lib.hid (show upK m (k + 1) = upK m k ++ F by rw [upK_in (by rw [ht]; exact hc), ht, hL, hF])
          have HR := Lib.hid (hr.kept GR.out (Nat.le_refl _))
          have CR := Lib.hid (HC.out.kept GR.out)
          have HU1 := Lib.hid hu1
          have HCT := Lib.hid hc
          clear hc hr hn hF hnf hl6 hL hu1
          go_wp2_with (first
            | (go_at_call 46; (try rw [ht]); refine (refHas_any _ _ _).mono ?_; rintro r wn ⟨rfl, gn⟩; rw [HCT.out]; have GN := Lib.hid (grown_trans' GR.out gn); have ON := Lib.hid (HOWN.out.below (below_of_none gn)); have q2 := (CR.out.kept gn).at_ (i := k) HU1.out; have RN := Lib.hid ((HR.out.more GR.out.size).keptB gn); clear gn)
            | (go_at_call 47; (try rw [ht]); refine (fieldN_any t V L vc n _ HT1.out HT2.out (Nat.le_trans HL6.out (by omega)) HNL.out RN.out).mono ?_; rintro e w5 ⟨u5, rfl, o5, b5⟩; obtain ⟨A5, c5, h5, r5⟩ := o5.isB; rw [HF.out, HNF.out] at h5; rw [HF.out] at r5; subst h5; have R5 := Lib.hid r5; have GF := Lib.hid (none_of_below b5 (Nat.le_refl _)); have O5 := Lib.hid (ON.out.below (below_of_none GF.out)); have G5 := Lib.hid (grown_trans' GN.out GF.out); clear o5 b5 r5)
            | (at_builtin; refine wpList_appB byteT rfl (.tmp 51) (.tmp 57) rfl O5.out R5.out rfl (by rw [HNF.out]; rfl) (by rw [HNF.out]; have := HLF.out; have := HLU.out; omega) (Nat.le_trans (Nat.le_refl _) G5.out.size) ?_; intro v6 w6 o6 g6 _ _; have G6 := Lib.hid (grownR G5.out g6 (fun x hx => (O5.out.lt x hx).1)); have O6 := Lib.hid o6; clear o6 g6))
          go_roundw
          case rel => exact ⟨k + 1, by go_num, by omega, by rw [HU.out]; exact O6.out, G6.out⟩
          case measure => first | (simp [intOf]; done) | (simp [intOf]; omega)
      · obtain rfl : k = 9 := by omega
        rw [show ((9 : Nat) : Int) = 9 from rfl]
        go_wp2
        go_ret2
        exact WroteR.yes (by rw [← upK_nine]; exact HOWN.out.isB) (grown_trans' HG.out GR.out)
end Go.Proofs.YtejmbabeniekhaaDoor
namespace Go.Proofs.YtejmbabeniekhaaDoor
open Go.RowKit
theorem sameK_self (m : Msg) : sameK m m = true := by simp [sameK]
set_option maxRecDepth 10000 in
set_option maxHeartbeats 4000000 in
theorem walk_KrbWrites (w : World) (hM : ML w) (m : Msg) (T : Option Addr) (tc : Nat) (S : Option Addr) (sc : Nat) (hk : KM w w.heap.size m T tc S sc) (hno : m.no < 18446744073709551616) (wa1 : (Lit.int .i64 m.kd).wf = true) (wa2 : (Lit.int .i64 m.en).wf = true) (wa3 : (Lit.int .i64 m.fl).wf = true) (wa4 : (Lit.int .i64 m.co).wf = true) :
    Calls Tryd.prog 3 #[.agg (kcells m T tc S sc).toArray] w fun e w' => e = .returned (.bool true) ∧ Below w.heap.size w w' := by
  have HM := Lib.hid hM
  have HK := Lib.hid hk
  have HNO := Lib.hid hno
  have IM := Lib.hid (I64K.of hno wa1 wa2 wa3 wa4)
  have H1 := Lib.hid (show I64k m.en from IM.out.2.1)
  have H2 := Lib.hid (show I64k m.fl from IM.out.2.2.1)
  have H3 := Lib.hid (show I64k m.co from IM.out.2.2.2.1)
  obtain ⟨X, hX⟩ : ∃ X, kcells m T tc S sc = X := ⟨_, rfl⟩
  have HX := Lib.hid hX
  have XL := Lib.hid (show X.length = 9 by rw [← hX]; rfl)
  rw [hX]
  have B0 := Lib.hid (CB.new w 25 X)
  have G0 := Lib.hid (grown_alloc w (.cells X.toArray 25) none)
  obtain ⟨gr, hgr⟩ : ∃ g, greatK m = g := ⟨_, rfl⟩
  have HG := Lib.hid hgr
  obtain ⟨ok, hok⟩ : ∃ o, okK m = o := ⟨_, rfl⟩
  have HOK := Lib.hid hok
  have TK0 := Lib.hid True.intro
  clear hM hk hno wa1 wa2 wa3 wa4 hX hgr
  cases gr with
  | true =>
    clear hok
    go_enter Tryd.func3, Tryd.ntmps3
    go_wp2_with (first
      | (go_at_call 11; have hx := TK0; clear hx; refine (kspeaks_any _ (HM.out.below (below_of_none G0.out))).mono ?_; rintro e w1 ⟨rfl, g⟩; have G1 := Lib.hid (grown_trans' G0.out g); have B1 := Lib.hid (B0.out.kept g); clear g TK0; have TK1 := Lib.hid True.intro)
      | (have hx := TK1; clear hx; refine wpList_loadC (off := 0) (p := X) aggKm rfl (.tmp 1) rfl B1.out (by rw [List.drop_zero]; exact List.take_of_length_le (by rw [XL.out]; exact Nat.le_refl _)) (by rw [XL.out]; omega) (by first | rfl | go_simp) ?_; clear TK1; have TK2 := Lib.hid True.intro)
      | (go_at_call 12; have hx := TK2; clear hx; rw [← HX.out]; refine (great_k m T tc S sc _).mono ?_; rw [HX.out, HG.out]; rintro e w2 ⟨rfl, g⟩; have G2 := Lib.hid (grown_trans' G1.out g); have B2 := Lib.hid (B1.out.kept g); clear g TK2; have TK3 := Lib.hid True.intro))
    go_ret
    exact ⟨rfl, below_of_none G2.out⟩
  | false =>
    have HLm := Lib.hid (lensK_of HG.out)
    cases ok with
    | false =>
      clear hok
      go_enter Tryd.func3, Tryd.ntmps3
      go_wp2_with (first
        | (go_at_call 11; have hx := TK0; clear hx; refine (kspeaks_any _ (HM.out.below (below_of_none G0.out))).mono ?_; rintro e w1 ⟨rfl, g⟩; have G1 := Lib.hid (grown_trans' G0.out g); have B1 := Lib.hid (B0.out.kept g); clear g TK0; have TK1 := Lib.hid True.intro)
        | (have hx := TK1; clear hx; refine wpList_loadC (off := 0) (p := X) aggKm rfl (.tmp 1) rfl B1.out (by rw [List.drop_zero]; exact List.take_of_length_le (by rw [XL.out]; exact Nat.le_refl _)) (by rw [XL.out]; omega) (by first | rfl | go_simp) ?_; clear TK1; have TK2 := Lib.hid True.intro)
        | (go_at_call 12; have hx := TK2; clear hx; rw [← HX.out]; refine (great_k m T tc S sc _).mono ?_; rw [HX.out, HG.out]; rintro e w2 ⟨rfl, g⟩; have G2 := Lib.hid (grown_trans' G1.out g); have B2 := Lib.hid (B1.out.kept g); clear g TK2; have TK3 := Lib.hid True.intro)
        | (have hx := TK3; clear hx; refine wpList_loadC (off := 0) (p := X) aggKm rfl (.tmp 1) rfl B2.out (by rw [List.drop_zero]; exact List.take_of_length_le (by rw [XL.out]; exact Nat.le_refl _)) (by rw [XL.out]; omega) (by first | rfl | go_simp) ?_; clear TK3; have TK4 := Lib.hid True.intro)
        | (go_at_call 13; have hx := TK4; clear hx; rw [← HX.out]; refine (kwrite_any m T tc S sc w.heap.size _ (HM.out.below (below_of_none G2.out)) (HK.out.kept G2.out (Nat.le_refl _)) G2.out.size HNO.out HLm.out).mono ?_; rw [HX.out, HOK.out]; rintro e w3 ⟨g, h⟩; rw [if_neg (by simp)] at h; subst h; have R3 := Lib.hid (RB.nil_ w3 w3.heap.size); have G3 := Lib.hid (grown_trans' G2.out g); have B3 := Lib.hid (B2.out.kept g); clear g TK4; have TK5 := Lib.hid True.intro)
        | (have hx := TK5; clear hx; refine wpList_loadC (off := 0) (p := X) aggKm rfl (.tmp 1) rfl B3.out (by rw [List.drop_zero]; exact List.take_of_length_le (by rw [XL.out]; exact Nat.le_refl _)) (by rw [XL.out]; omega) (by first | rfl | go_simp) ?_; clear TK5; have TK6 := Lib.hid True.intro)
        | (go_at_call 14; have hx := TK6; clear hx; rw [← HX.out]; refine (refKWrite_no m T tc S sc _ H1.out H2.out H3.out HLm.out.1 HLm.out.2.1 HOK.out).mono ?_; rw [HX.out]; rintro e w4 ⟨g, h⟩; rw [if_neg (by simp)] at h; obtain ⟨v, rfl, b⟩ := h; obtain ⟨A2, c2, rfl, r⟩ := b; rw [show ([] : List UInt8).length = 0 from rfl]; have q1 := run_strB byteT Tryd.underlying9 (R3.out.keptB g); have q2 := run_strB byteT Tryd.underlying9 r; rw [show ([] : List UInt8).length = 0 from rfl] at q1 q2; have R4 := Lib.hid (R3.out.keptB g); have G4 := Lib.hid (grown_trans' G3.out g); have B4 := Lib.hid (B3.out.kept g); clear g r TK6; have TK7 := Lib.hid True.intro)
        | (have hx := TK7; clear hx; refine wpList_loadCg (off := 0) (p := X) aggKm (by first | rfl | go_simp) (.tmp 1) rfl B4.out (by rw [List.drop_zero]; exact List.take_of_length_le (by rw [XL.out]; exact Nat.le_refl _)) (by rw [XL.out]; omega) (by first | rfl | go_simp) ?_; clear TK7; have TK8 := Lib.hid True.intro)
        | (go_at_call 15; have hx := TK8; clear hx; rw [← HX.out]; refine (check_k m T tc S sc w.heap.size _ (HM.out.below (below_of_none G4.out)) (HK.out.kept G4.out (Nat.le_refl _)) G4.out.size HNO.out (Nat.le_trans HLm.out.1 (by omega)) (Nat.le_trans HLm.out.2.1 (by omega))).mono ?_; rw [HX.out, HOK.out]; rintro e w5 ⟨rfl, g⟩; have G5 := Lib.hid (grown_trans' G4.out g); have B5 := Lib.hid (B4.out.kept g); have R5 := Lib.hid (R4.out.keptB g); clear g TK8; have TK9 := Lib.hid True.intro))
      go_ret
      exact ⟨rfl, below_of_none G5.out⟩
    | true =>
      obtain ⟨Y, hy⟩ : ∃ Y, bytesK m = Y := ⟨_, rfl⟩
      have HY := Lib.hid hy
      obtain ⟨n, hn⟩ : ∃ n, Y.length = n := ⟨_, rfl⟩
      have HN := Lib.hid hn
      have HNB := Lib.hid (show n ≤ 10000 by rw [← hn, ← hy]; exact Nat.le_trans (bytesK_len hok) (by omega))
      have HQ := Lib.hid (show readsK Y = true by rw [← hy]; exact (readsK_back HLm.out hok IM.out).1)
      have HMV := Lib.hid (show madeK Y = m by rw [← hy]; exact (readsK_back HLm.out hok IM.out).2)
      clear hok hy hn
      go_enter Tryd.func3, Tryd.ntmps3
      go_wp2_with (first
        | (go_at_call 11; have hx := TK0; clear hx; refine (kspeaks_any _ (HM.out.below (below_of_none G0.out))).mono ?_; rintro e w1 ⟨rfl, g⟩; have G1 := Lib.hid (grown_trans' G0.out g); have B1 := Lib.hid (B0.out.kept g); clear g TK0; have TK1 := Lib.hid True.intro)
        | (have hx := TK1; clear hx; refine wpList_loadC (off := 0) (p := X) aggKm rfl (.tmp 1) rfl B1.out (by rw [List.drop_zero]; exact List.take_of_length_le (by rw [XL.out]; exact Nat.le_refl _)) (by rw [XL.out]; omega) (by first | rfl | go_simp) ?_; clear TK1; have TK2 := Lib.hid True.intro)
        | (go_at_call 12; have hx := TK2; clear hx; rw [← HX.out]; refine (great_k m T tc S sc _).mono ?_; rw [HX.out, HG.out]; rintro e w2 ⟨rfl, g⟩; have G2 := Lib.hid (grown_trans' G1.out g); have B2 := Lib.hid (B1.out.kept g); clear g TK2; have TK3 := Lib.hid True.intro)
        | (have hx := TK3; clear hx; refine wpList_loadC (off := 0) (p := X) aggKm rfl (.tmp 1) rfl B2.out (by rw [List.drop_zero]; exact List.take_of_length_le (by rw [XL.out]; exact Nat.le_refl _)) (by rw [XL.out]; omega) (by first | rfl | go_simp) ?_; clear TK3; have TK4 := Lib.hid True.intro)
        | (go_at_call 13; have hx := TK4; clear hx; rw [← HX.out]; refine (kwrite_any m T tc S sc w.heap.size _ (HM.out.below (below_of_none G2.out)) (HK.out.kept G2.out (Nat.le_refl _)) G2.out.size HNO.out HLm.out).mono ?_; rw [HX.out, HOK.out]; rintro e w3 ⟨g, h⟩; rw [if_pos rfl] at h; obtain ⟨v, rfl, b⟩ := h; obtain ⟨A1, c1, rfl, r⟩ := b; rw [HY.out] at r; rw [HY.out, HN.out]; have R3 := Lib.hid r; clear r; have G3 := Lib.hid (grown_trans' G2.out g); have B3 := Lib.hid (B2.out.kept g); clear g TK4; have TK5 := Lib.hid True.intro)
        | (have hx := TK5; clear hx; refine wpList_loadC (off := 0) (p := X) aggKm rfl (.tmp 1) rfl B3.out (by rw [List.drop_zero]; exact List.take_of_length_le (by rw [XL.out]; exact Nat.le_refl _)) (by rw [XL.out]; omega) (by first | rfl | go_simp) ?_; clear TK5; have TK6 := Lib.hid True.intro)
        | (go_at_call 14; have hx := TK6; clear hx; rw [← HX.out]; refine (refKWrite_yes m T tc S sc w.heap.size _ (HK.out.kept G3.out (Nat.le_refl _)) G3.out.size HNO.out H1.out H2.out H3.out HLm.out HOK.out).mono ?_; rw [HX.out]; rintro e w4 ⟨g, h⟩; rw [if_pos rfl] at h; obtain ⟨v, rfl, b⟩ := h; obtain ⟨A2, c2, rfl, r⟩ := b; rw [HY.out] at r; rw [HY.out, HN.out]; have q1 := run_strB byteT Tryd.underlying9 (R3.out.keptB g); have q2 := run_strB byteT Tryd.underlying9 r; rw [HN.out] at q1 q2; have R4 := Lib.hid (R3.out.keptB g); have G4 := Lib.hid (grown_trans' G3.out g); have B4 := Lib.hid (B3.out.kept g); clear g r TK6; have TK7 := Lib.hid True.intro)
        | (have hx := TK7; clear hx; refine wpList_loadCg (off := 0) (p := X) aggKm (by first | rfl | go_simp) (.tmp 1) rfl B4.out (by rw [List.drop_zero]; exact List.take_of_length_le (by rw [XL.out]; exact Nat.le_refl _)) (by rw [XL.out]; omega) (by first | rfl | go_simp) ?_; clear TK7; have TK8 := Lib.hid True.intro)
        | (go_at_call 15; have hx := TK8; clear hx; rw [← HX.out]; refine (check_k m T tc S sc w.heap.size _ (HM.out.below (below_of_none G4.out)) (HK.out.kept G4.out (Nat.le_refl _)) G4.out.size HNO.out (Nat.le_trans HLm.out.1 (by omega)) (Nat.le_trans HLm.out.2.1 (by omega))).mono ?_; rw [HX.out, HOK.out]; rintro e w5 ⟨rfl, g⟩; have G5 := Lib.hid (grown_trans' G4.out g); have B5 := Lib.hid (B4.out.kept g); have R5 := Lib.hid (R4.out.keptB g); clear g TK8; have TK9 := Lib.hid True.intro)
        | (go_at_call 16; have hx := TK9; clear hx; refine (kread_any n c1 A1 Y _ (HM.out.below (below_of_none G5.out)) HN.out HNB.out R5.out).mono ?_; intro e w6 h; obtain ⟨g, h⟩ := h; rw [if_pos HQ.out] at h; obtain ⟨T9, tc9, S9, sc9, rfl, k9, -, -⟩ := h; rw [HMV.out] at k9; rw [HMV.out]; obtain ⟨Z, hZ⟩ : ∃ Z, kcells m T9 tc9 S9 sc9 = Z := ⟨_, rfl⟩; rw [hZ]; have HZ := Lib.hid hZ; have ZL := Lib.hid (show Z.length = 9 by rw [← hZ]; rfl); have ZO := Lib.hid (show ∀ u ∈ Z, u.oneCell' = true by rw [← hZ]; exact kcells_one m T9 tc9 S9 sc9); have G6 := Lib.hid (grown_trans' G5.out g); have B6 := Lib.hid (B5.out.kept g); have K6 := Lib.hid k9; clear g k9 hZ TK9; have TK10 := Lib.hid True.intro)
        | (have hx := TK10; clear hx; refine wpList_allocC zeroKr rfl rfl ?_; clear TK10; have TK11 := Lib.hid True.intro)
        | (have hx := TK11; clear hx; refine wpList_storeC (off := 0) (p := Z) aggKr.hi rfl (.tmp 7) (.tmp 44) rfl (.agg Z.toArray) rfl ZO.out (CB.new w6 25 kZero) ZL.out (by rw [kZeroL]; omega) (by first | rfl | go_simp) rfl ?_; intro w7 h g; rw [over_all _ _ (by rw [kZeroL, ZL.out]; exact Nat.le_refl _)] at h; have gs := none_new (grown_alloc w6 (.cells kZero.toArray 25) none) g (Nat.le_refl _); have G7 := Lib.hid (grown_trans' G6.out gs); have B7 := Lib.hid (B6.out.kept gs); have C7 := Lib.hid h; have K7 := Lib.hid (KM.keptK K6.out gs); clear h g gs TK11; have TK12 := Lib.hid True.intro)
        | (have hx := TK12; clear hx; refine wpList_loadCg (off := 0) (p := Z) aggKm (by first | rfl | go_simp) (.tmp 7) rfl C7.out (by rw [List.drop_zero]; exact List.take_of_length_le (by rw [ZL.out]; exact Nat.le_refl _)) (by rw [ZL.out]; omega) (by first | rfl | go_simp) ?_; clear TK12; have TK13 := Lib.hid True.intro)
        | (have hx := TK13; clear hx; refine wpList_loadCg (off := 0) (p := X) aggKm (by first | rfl | go_simp) (.tmp 1) rfl B7.out (by rw [List.drop_zero]; exact List.take_of_length_le (by rw [XL.out]; exact Nat.le_refl _)) (by rw [XL.out]; omega) (by first | rfl | go_simp) ?_; clear TK13; have TK14 := Lib.hid True.intro)
        | (go_at_call 17; have hx := TK14; clear hx; rw [← HX.out, ← HZ.out]; refine (same_k m m T9 tc9 S9 sc9 T tc S sc w7.heap.size _ K7.out ⟨(HK.out.kept G7.out (Nat.le_refl _)).1.more G7.out.size, (HK.out.kept G7.out (Nat.le_refl _)).2.more G7.out.size⟩ (Nat.le_refl _)).mono ?_; rw [sameK_self]; rintro e w8 ⟨rfl, g⟩; rw [HX.out, HZ.out]; have G8 := Lib.hid (grown_trans' G7.out g); clear g TK14))
      go_ret
      exact ⟨rfl, below_of_none G8.out⟩
end Go.Proofs.YtejmbabeniekhaaDoor
