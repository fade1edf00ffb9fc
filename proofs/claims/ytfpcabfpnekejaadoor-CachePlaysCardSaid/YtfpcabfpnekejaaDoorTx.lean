/- Slices of strings in memory: what a slice reads as, that it stays. Plain lemmas. -/
import Derived.Test.YtfpcabfpnekejaaDoorRp
import Derived.Test.YtfpcabfpnekejaaDoorShf
import Derived.BigRegion
namespace Go.Proofs.YtfpcabfpnekejaaDoor
open Go.RowKit

/-- The slice at A, of this capacity, reads as the strings ls; its block lies below B. -/
def NS (w : World) (B : Nat) (A : Option Addr) (ls : List ByteArray) (cap : Nat) : Prop :=
  ls.length ≤ cap ∧ cap ≤ maxLen ∧ ((A = none ∧ cap = 0) ∨ ∃ a, A = some a ∧ ∀ k s, ls[k]? = some s → a.block < B ∧ w.cell? (a.add k) = some (.string s))
/-- The bytes of strings. -/
def dl (ls : List ByteArray) : List (List UInt8) := ls.map (·.data.toList)
theorem dl_length (ls : List ByteArray) : (dl ls).length = ls.length := by simp [dl]

section
variable {w w' : World} {B B' cap : Nat} {A : Option Addr} {ls : List ByteArray}
theorem NS.nil_ (w : World) (B : Nat) : NS w B none [] 0 := ⟨Nat.le_refl _, Nat.zero_le _, .inl ⟨rfl, rfl⟩⟩
theorem NS.keep (h : NS w B A ls cap) (hk : ∀ a : Addr, a.block < B → w'.cell? a = w.cell? a) : NS w' B A ls cap :=
  ⟨h.1, h.2.1, h.2.2.imp id fun ⟨a, hA, hc⟩ => ⟨a, hA, fun k u hu => ⟨(hc k u hu).1, (hk _ (by rw [add_block]; exact (hc k u hu).1)).trans (hc k u hu).2⟩⟩⟩
theorem NS.more (h : NS w B A ls cap) (hB : B ≤ B') : NS w B' A ls cap :=
  ⟨h.1, h.2.1, h.2.2.imp id fun ⟨a, hA, hc⟩ => ⟨a, hA, fun k u hu => ⟨Nat.lt_of_lt_of_le (hc k u hu).1 hB, (hc k u hu).2⟩⟩⟩
theorem NS.below (h : NS w B A ls cap) (hb : Below B w w') : NS w' B A ls cap := h.keep fun _ hlt => hb.cell hlt
theorem NS.over (h : NS w w.heap.size A ls cap) (hb : Below w.heap.size w w') : NS w' w'.heap.size A ls cap := (h.below hb).more hb.size
theorem NS.alloc (h : NS w B A ls cap) (hB : B ≤ w.heap.size) (o : Obj) : NS (w.alloc o) B A ls cap := h.below ((Below.refl B w).alloc hB o)
theorem NS.drewN (h : NS w B A ls cap) (n : Nat) : NS (w.drewN n) B A ls cap := h
/-- A slice that is not empty: its address written out, all its cells. -/
theorem NS.open_ (h : NS w B A ls cap) (hp : 0 < ls.length) :
    ∃ b off, A = some ⟨b, off, none⟩ ∧ b < B ∧ ∀ k (hk : k < ls.length), w.cell? ⟨b, off + k, none⟩ = some (.string ls[k]) := by
  rcases h.2.2 with ⟨_, h0⟩ | ⟨⟨b, off, s⟩, hA, hc⟩
  · have := h.1; omega
  · have hb := (hc 0 _ (List.getElem?_eq_getElem hp)).1
    have h0 := (hc 0 _ (List.getElem?_eq_getElem hp)).2
    have hs : s = none := by simpa [Addr.add] using World.cell?_spot h0
    subst hs
    exact ⟨b, off, hA, hb, fun k hk => by have := (hc k _ (List.getElem?_eq_getElem hk)).2; rwa [Addr.add_lit] at this⟩
end

def errOf (b : Bool) : Int := if b then 0 else 30
theorem dl_all_take (ls : List ByteArray) (k : Nat) (hk : k < ls.length) : ((dl ls).take (k + 1)).all partOk = (((dl ls).take k).all partOk && partOk ls[k].data.toList) := by
  rw [List.take_succ_eq_append_getElem (by rw [dl_length]; exact hk), List.all_append]
  simp [dl]

set_option maxHeartbeats 400000 in
theorem ncheck_any (A : Option Addr) (ls : List ByteArray) (cap : Nat) (r : ByteArray) (w : World) (h : NS w w.heap.size A ls cap) (hb : ∀ s ∈ ls, s.size ≤ 1000000) (hr : r.size ≤ 1000000) (n : Nat) (hn : ls.length = n) :
    Calls Tryd.prog 37 #[.agg #[.slice A n cap, .string r]] w fun e w' => e = .returned (.int .i64 (errOf (nameOk (dl ls) r.data.toList))) ∧ Below w.heap.size w w' := by
  have hbe := (Below.refl w.heap.size w).alloc (Nat.le_refl _) (.cells #[.slice A n cap, .string r] 66)
  have HBE := Lib.hid hbe
  clear hbe
  by_cases h1 : n < 1
  · have hp : nameOk (dl ls) r.data.toList = false := by rw [nameOk, dl_length, hn, decide_eq_false (by omega)]; rfl
    rw [hp]
    have h1i : (n : Int) < 1 := by omega
    clear h hb hr hp hn
    go_enter Tryd.func37, Tryd.ntmps37
    go_wp2
    go_ret
    exact ⟨rfl, HBE.out⟩
  by_cases h2 : 3 < n
  · have hp : nameOk (dl ls) r.data.toList = false := by rw [nameOk, dl_length, hn, decide_eq_false (show ¬ n ≤ 3 by omega), Bool.and_false]; rfl
    rw [hp]
    have h1i : ¬ (n : Int) < 1 := by omega
    have h2i : (3 : Int) < (n : Int) := by omega
    clear h hb hr hp hn
    go_enter Tryd.func37, Tryd.ntmps37
    go_wp2
    go_ret
    exact ⟨rfl, HBE.out⟩
  have h1i : ¬ (n : Int) < 1 := by omega
  have h2i : ¬ (3 : Int) < (n : Int) := by omega
  have hp : nameOk (dl ls) r.data.toList = ((dl ls).all partOk && partOk r.data.toList) := by rw [nameOk, dl_length, hn, decide_eq_true (show 1 ≤ n by omega), decide_eq_true (show n ≤ 3 by omega)]; rfl
  rw [hp]
  obtain ⟨b, off, rfl, hbb, hcell⟩ := h.open_ (by omega)
  have HC := Lib.hid hcell
  have HB := Lib.hid hb
  have HN := Lib.hid hn
  clear h hb hp hcell
  go_enter Tryd.func37, Tryd.ntmps37
  go_wp2
  go_loop [18] (fun i => ∃ k : Nat, i = .int .i64 k ∧ k ≤ n ∧ ((dl ls).take k).all partOk = true) (fun i => n - (intOf i).toNat)
  case atStart => exact ⟨0, rfl, by omega, by simp⟩
  case round =>
    obtain ⟨k, rfl, hk, ha⟩ := hrel
    by_cases hlt : k < n
    · have hki : (k : Int) < (n : Int) := by omega
      have hx := dl_all_take ls k (by rw [HN.out]; exact hlt)
      have hc := HC.out k (by rw [HN.out]; exact hlt)
      have hsb := HB.out ls[k] (List.getElem_mem _)
      obtain ⟨s, hs⟩ : ∃ s, s = ls[k]'(by rw [HN.out]; exact hlt) := ⟨_, rfl⟩
      rw [← hs] at hx hc hsb
      have hsl : s.data.toList.length ≤ 1000000 := hsb
      have HSL := Lib.hid hsl
      cases hp : partOk s.data.toList with
      | false =>
        have HF := Lib.hid (show (dl ls).all partOk = false by
          rw [List.all_eq_false]
          exact ⟨s.data.toList, by rw [hs]; exact List.mem_map.2 ⟨_, List.getElem_mem _, rfl⟩, by simp [hp]⟩)
        have HP := Lib.hid hp
        clear ha hx hsb hsl hp hs
        go_wp2_with (go_at_call 50; refine (rightPart_any _ _ rfl _ HSL.out).mono ?_; rintro e w1 ⟨rfl, rfl⟩; rw [HP.out])
        go_ret
        exact ⟨by rw [HF.out]; rfl, HBE.out⟩
      | true =>
        have HX := Lib.hid (show ((dl ls).take (k + 1)).all partOk = true by rw [hx, ha, hp]; rfl)
        have HP := Lib.hid hp
        clear ha hx hsb hsl hp hs
        go_wp2_with (go_at_call 50; refine (rightPart_any _ _ rfl _ HSL.out).mono ?_; rintro e w1 ⟨rfl, rfl⟩; rw [HP.out])
        go_round
        case rel => exact ⟨k + 1, by go_num, by omega, HX.out⟩
        case measure => simp [intOf]; omega
    · have hki : ¬ (k : Int) < (n : Int) := by omega
      have HF := Lib.hid (show (dl ls).all partOk = true by rw [List.take_of_length_le (by rw [dl_length, HN.out]; omega)] at ha; exact ha)
      have HSL := Lib.hid (show r.data.toList.length ≤ 1000000 from hr)
      clear ha hr
      cases hp : partOk r.data.toList with
      | false =>
        have HP := Lib.hid hp
        clear hp
        go_wp2_with (go_at_call 50; refine (rightPart_any _ _ rfl _ HSL.out).mono ?_; rintro e w1 ⟨rfl, rfl⟩; rw [HP.out])
        go_ret
        exact ⟨by rw [HF.out, HP.out]; rfl, HBE.out⟩
      | true =>
        have HP := Lib.hid hp
        clear hp
        go_wp2_with (go_at_call 50; refine (rightPart_any _ _ rfl _ HSL.out).mono ?_; rintro e w1 ⟨rfl, rfl⟩; rw [HP.out])
        go_ret
        exact ⟨by rw [HF.out, HP.out]; rfl, HBE.out⟩
end Go.Proofs.YtfpcabfpnekejaaDoor
namespace Go.Proofs.YtfpcabfpnekejaaDoor
open Go.RowKit

set_option maxHeartbeats 400000 in
theorem right_any (A : Option Addr) (ls : List ByteArray) (cap : Nat) (r : ByteArray) (w : World) (h : NS w w.heap.size A ls cap) (hb : ∀ s ∈ ls, s.size ≤ 1000000) (hr : r.size ≤ 1000000) (n : Nat) (hn : ls.length = n) :
    Calls Tryd.prog 44 #[.agg #[.slice A n cap, .string r]] w fun e w' => e = .returned (.bool (nameOk (dl ls) r.data.toList)) ∧ Below w.heap.size w w' := by
  have hbe := (Below.refl w.heap.size w).alloc (Nat.le_refl _) (.cells #[.slice A n cap, .string r] 66)
  have HBE := Lib.hid hbe
  clear hbe
  by_cases h1 : n < 1
  · have hp : nameOk (dl ls) r.data.toList = false := by rw [nameOk, dl_length, hn, decide_eq_false (by omega)]; rfl
    rw [hp]
    have h1i : (n : Int) < 1 := by omega
    clear h hb hr hp hn
    go_enter Tryd.func44, Tryd.ntmps44
    go_wp2
    go_ret
    exact ⟨rfl, HBE.out⟩
  by_cases h2 : 3 < n
  · have hp : nameOk (dl ls) r.data.toList = false := by rw [nameOk, dl_length, hn, decide_eq_false (show ¬ n ≤ 3 by omega), Bool.and_false]; rfl
    rw [hp]
    have h1i : ¬ (n : Int) < 1 := by omega
    have h2i : (3 : Int) < (n : Int) := by omega
    clear h hb hr hp hn
    go_enter Tryd.func44, Tryd.ntmps44
    go_wp2
    go_ret
    exact ⟨rfl, HBE.out⟩
  have h1i : ¬ (n : Int) < 1 := by omega
  have h2i : ¬ (3 : Int) < (n : Int) := by omega
  have hp : nameOk (dl ls) r.data.toList = ((dl ls).all partOk && partOk r.data.toList) := by rw [nameOk, dl_length, hn, decide_eq_true (show 1 ≤ n by omega), decide_eq_true (show n ≤ 3 by omega)]; rfl
  rw [hp]
  have HSR := Lib.hid (show r.data.toList.length ≤ 1000000 from hr)
  cases hpr : partOk r.data.toList with
  | false =>
    have HP := Lib.hid hpr
    rw [Bool.and_false]
    clear h hb hr hp hn hpr
    go_enter Tryd.func44, Tryd.ntmps44
    go_wp2_with (go_at_call 54; refine (refPart_any _ _ rfl _ HSR.out).mono ?_; rintro e w1 ⟨rfl, rfl⟩; rw [HP.out])
    go_ret
    exact ⟨rfl, HBE.out⟩
  | true =>
  rw [Bool.and_true]
  obtain ⟨b, off, rfl, hbb, hcell⟩ := h.open_ (by omega)
  have HC := Lib.hid hcell
  have HB := Lib.hid hb
  have HN := Lib.hid hn
  have HP := Lib.hid hpr
  clear h hb hp hcell hpr
  go_enter Tryd.func44, Tryd.ntmps44
  go_wp2_with (go_at_call 54; refine (refPart_any _ _ rfl _ HSR.out).mono ?_; rintro e w1 ⟨rfl, rfl⟩; rw [HP.out])
  go_loop [3] (fun i => ∃ k : Nat, i = .int .i64 k ∧ k ≤ n ∧ ((dl ls).take k).all partOk = true) (fun i => n - (intOf i).toNat)
  case atStart => exact ⟨0, rfl, by omega, by simp⟩
  case round =>
    obtain ⟨k, rfl, hk, ha⟩ := hrel
    by_cases hlt : k < n
    · have hki : (k : Int) < (n : Int) := by omega
      have hx := dl_all_take ls k (by rw [HN.out]; exact hlt)
      have hc := HC.out k (by rw [HN.out]; exact hlt)
      have hsb := HB.out ls[k] (List.getElem_mem _)
      obtain ⟨s, hs⟩ : ∃ s, s = ls[k]'(by rw [HN.out]; exact hlt) := ⟨_, rfl⟩
      rw [← hs] at hx hc hsb
      have hsl : s.data.toList.length ≤ 1000000 := hsb
      have HSL := Lib.hid hsl
      cases hp : partOk s.data.toList with
      | false =>
        have HF := Lib.hid (show (dl ls).all partOk = false by
          rw [List.all_eq_false]
          exact ⟨s.data.toList, by rw [hs]; exact List.mem_map.2 ⟨_, List.getElem_mem _, rfl⟩, by simp [hp]⟩)
        have HP2 := Lib.hid hp
        clear ha hx hsb hsl hp hs
        go_wp2_with (go_at_call 54; refine (refPart_any _ _ rfl _ HSL.out).mono ?_; rintro e w1 ⟨rfl, rfl⟩; rw [HP2.out])
        go_ret
        exact ⟨by rw [HF.out]; rfl, HBE.out⟩
      | true =>
        have HX := Lib.hid (show ((dl ls).take (k + 1)).all partOk = true by rw [hx, ha, hp]; rfl)
        have HP2 := Lib.hid hp
        clear ha hx hsb hsl hp hs
        go_wp2_with (go_at_call 54; refine (refPart_any _ _ rfl _ HSL.out).mono ?_; rintro e w1 ⟨rfl, rfl⟩; rw [HP2.out])
        go_round
        case rel => exact ⟨k + 1, by go_num, by omega, HX.out⟩
        case measure => simp [intOf]; omega
    · have hki : ¬ (k : Int) < (n : Int) := by omega
      have HF := Lib.hid (show (dl ls).all partOk = true by rw [List.take_of_length_le (by rw [dl_length, HN.out]; omega)] at ha; exact ha)
      clear ha
      go_wp2
      go_ret
      exact ⟨by rw [HF.out]; rfl, HBE.out⟩

/-- More than is looked at. -/
def ngreatOf (ls : List ByteArray) (r : ByteArray) : Bool := decide (20 < ls.length) || decide (200 < r.size) || ls.any fun s => decide (200 < s.size)
theorem ngreatOf_not {ls : List ByteArray} {r : ByteArray} (h : ngreatOf ls r = false) : ls.length ≤ 20 ∧ r.size ≤ 200 ∧ ∀ s ∈ ls, s.size ≤ 200 := by
  simp only [ngreatOf, Bool.or_eq_false_iff, decide_eq_false_iff_not, List.any_eq_false, decide_eq_true_eq] at h
  exact ⟨by omega, by omega, fun s hs => by have := h.2 s hs; omega⟩
theorem any_take (ls : List ByteArray) (f : ByteArray → Bool) (k : Nat) (hk : k < ls.length) : (ls.take (k + 1)).any f = ((ls.take k).any f || f ls[k]) := by
  rw [List.take_succ_eq_append_getElem hk, List.any_append]
  simp
end Go.Proofs.YtfpcabfpnekejaaDoor
namespace Go.Proofs.YtfpcabfpnekejaaDoor
open Go.RowKit

def sameOf (ls1 : List ByteArray) (r1 : ByteArray) (ls2 : List ByteArray) (r2 : ByteArray) : Bool := decide (r1 = r2) && decide (ls1 = ls2)
theorem str_ne {a b : ByteArray} (h : a ≠ b) : (a.toList == b.toList) = false := by
  rw [beq_eq_false_iff_ne, ByteArray.toList_eq, ByteArray.toList_eq]
  intro e
  exact h (ByteArray.ext (Array.ext' e))
theorem getD_of {ls : List ByteArray} {j : Nat} (h : j < ls.length) : ls.getD j ByteArray.empty = ls[j] := by simp [List.getD, List.getElem?_eq_getElem h]
theorem nbelow_drewN {B : Nat} {w w' : World} (h : Below B w w') (q : Nat) : Below B w (w'.drewN q) := h.trans ⟨rfl, rfl, rfl, Nat.le_refl _, fun _ _ => rfl⟩

end Go.Proofs.YtfpcabfpnekejaaDoor
namespace Go.Proofs.YtfpcabfpnekejaaDoor
open Go.RowKit

theorem yields_cell1 {P : Program} {ops : Array Oper} {S : World → Prop} {oi : Oper} {a : Act} {ty : TypeId} (hag : ∀ w, (isAgg ty).run P w = .ok false w) (x : Operand) (ho : oi.op = .load ty x) (hw : Region.wanted oi (yielded ops a.tmps) = true)
    {ad : Addr} {v : Value} (h : ∀ wx, S wx → wx.cell? ad = some v) (hx : a.eval x = .pointer (some ad)) : YieldsIf P ops S oi v a := by
  refine .inl ⟨hw, fun wx hS => ?_⟩
  have hc := h wx hS
  unfold execOp
  simp only [ho, hx]
  simp [go_sem, hag, hc]
theorem bytes_eq {a : ByteArray} {l : List UInt8} (h : a.data.toList = l) : a = ⟨l.toArray⟩ := by
  subst h
  simp
end Go.Proofs.YtfpcabfpnekejaaDoor
