/- A Sealer by symbols: New, Fresh, Drawn, symbolKey, symbolBox. -/
import Derived.Test.YthgejidimnbplaaGreatDoorSea
namespace Go.Proofs.YthgejidimnbplaaGreatDoor
open Go.RowKit Go.Maps

/-- The key of a number. -/
def keyN (n : Nat) : List UInt8 := 245 :: (zeros 7 ++ wide8 n)
theorem keyN_len (n : Nat) : (keyN n).length = 16 := by
  unfold keyN
  rw [List.length_cons, List.length_append, zeros_length, wide8_len]
theorem keyN_inj {n m : Nat} (hn : n < 18446744073709551616) (hm : m < 18446744073709551616) (h : keyN n = keyN m) : n = m := by
  unfold keyN at h
  injection h with _ h
  have h2 := List.append_cancel_left h
  rw [← numOf_wide n hn, ← numOf_wide m hm, h2]
theorem zeroK_run (w : World) : (zeroValue 23).run Tryz.prog w = .ok (.agg (bcells (zeros 16)).toArray) w := by kernel_rfl
theorem aggKy : AggT Tryz.prog 23 16 := ⟨fun _ => by kernel_rfl, by kernel_rfl⟩
theorem run_buildK (w : World) : (Instr.build 23 #[(0, .int .u8 245)]).run Tryz.prog w = .ok (.agg (bcells (245 :: zeros 15)).toArray) w := by kernel_rfl
theorem RB.ofCB {w : World} {g : Nat} {t : TypeId} {l : List UInt8} (h : CB w g t (bcells l)) (hm : l.length ≤ maxLen) : RB w w.heap.size (some ⟨g, 0, none⟩) l l.length := by
  refine ⟨Nat.le_refl _, hm, .inr ⟨_, rfl, fun k u hu => ⟨h.lt, ?_⟩⟩⟩
  rw [Addr.add_lit, Nat.zero_add]
  exact h.at_ (by rw [bcells, List.getElem?_map, hu]; rfl)
theorem key_over (n : Nat) : over (bcells (245 :: zeros 15)) 8 (bcells (wide8 n)) = bcells (keyN n) := by
  unfold over keyN
  rw [bcells_length, wide8_len]
  have h1 : (bcells (245 :: zeros 15)).take 8 = bcells (245 :: zeros 7) := rfl
  have h2 : (bcells (245 :: zeros 15)).drop (8 + 8) = [] := rfl
  rw [h1, h2, List.append_nil]
  simp [bcells]
theorem szI64 : (Tryz.prog.info? 3).map (·.size) = some 1 := by kernel_rfl

/-- The box of a number. -/
def boxN (n : Nat) : List UInt8 := 83 :: wide8 n
theorem boxN_len (n : Nat) : (boxN n).length = 9 := by unfold boxN; rw [List.length_cons, wide8_len]
theorem boxN_inj {n m : Nat} (hn : n < 18446744073709551616) (hm : m < 18446744073709551616) (h : boxN n = boxN m) : n = m := by
  unfold boxN at h
  injection h with _ h
  rw [← numOf_wide n hn, ← numOf_wide m hm, h]
set_option maxRecDepth 10000 in
set_option maxHeartbeats 1000000 in
theorem symbolBox_any (n : Nat) (w : World) (hn : n < 18446744073709551616) :
    Calls Tryz.prog 28 #[.int .u64 n] w fun e w' => ∃ v, e = .returned v ∧ OwnB w' w.heap.size 5 v (boxN n) ∧ w.grownBy w' none := by
  have HN := Lib.hid hn
  have L8 := Lib.hid (show (bcells (zeros 8)).length = 8 by rw [bcells_length, zeros_length])
  have LW := Lib.hid (show (bcells (wide8 n)).length = 8 by rw [bcells_length, wide8_len])
  have LW8 := Lib.hid (wide8_len n)
  have TK0 := Lib.hid True.intro
  clear hn
  go_enter Tryz.func28, Tryz.ntmps28
  go_wp2_with (first
    | (go_at_call 43; refine (widen_any n _ HN.out).mono ?_; rintro e w3 ⟨rfl, g⟩; have G3 := Lib.hid g; clear g)
    | (have hx := TK0; refine wpList_allocC zero8_run rfl rfl ?_; clear hx TK0; have TK1 := Lib.hid True.intro)
    | (have hx := TK1; refine wpList_storeC (off := 0) (p := bcells (wide8 n)) agg8.hi rfl (.tmp 3) (.tmp 5) rfl (.agg (bcells (wide8 n)).toArray) rfl (bcells_one _) (CB.new w3 80 (bcells (zeros 8))) LW.out (by rw [L8.out]; omega) (by first | rfl | go_simp) (by first | rfl | go_simp) ?_; intro w4 h4 g4; rw [over_all _ _ (Nat.le_of_eq (by rw [L8.out, LW.out]))] at h4; have G4 := Lib.hid (grown_trans' G3.out (none_new (grown_alloc w3 (.cells (bcells (zeros 8)).toArray 80) none) g4 (Nat.le_refl _))); have B4 := Lib.hid (h4.alloc (.cells #[.int .u8 83] 5)); have G5 := Lib.hid (grown_trans' G4.out (grown_alloc w4 (.cells #[.int .u8 83] 5) none)); clear h4 g4 hx TK1; have TK2 := Lib.hid True.intro)
    | (at_builtin; have hx := TK2; refine wpList_appB byteT rfl (.tmp 6) (.tmp 7) rfl (OwnB.new1 w4 w.heap.size 5 83 83 rfl G4.out.size) (RB.ofCB B4.out (by rw [LW8.out]; decide)) (by first | rfl | go_simp) (by first | (rw [LW8.out]; rfl) | go_simp) (by rw [LW8.out]; decide) G5.out.size ?_; intro v6 w6 o6 g6 _ _; have O6 := Lib.hid o6; have G6 := Lib.hid (none_new (grown_alloc w4 (.cells #[.int .u8 83] 5) none) g6 (Nat.le_refl _)); clear o6 g6 hx TK2))
  go_ret
  exact ⟨_, rfl, O6.out, grown_trans' G4.out G6.out⟩

/-! The Sealer's cells. -/
abbrev Te := List UInt8 × Int × List UInt8
def teC (t : Te) (A : Option Addr) (c : Nat) : List Value := bcells t.1 ++ [.int .i64 t.2.1, .slice A t.2.2.length c]
def seC (d n : Nat) (v : Value) : List Value := .bool true :: (bcells (zeros 16) ++ [.int .i64 d, .int .u64 n, v])
theorem seC_len (d n : Nat) (v : Value) : (seC d n v).length = 20 := rfl
theorem seC_sy (d n : Nat) (v : Value) : (seC d n v)[0]? = some (.bool true) := rfl
theorem seC_dr (d n : Nat) (v : Value) : (seC d n v)[17]? = some (.int .i64 d) := rfl
theorem seC_se (d n : Nat) (v : Value) : (seC d n v)[18]? = some (.int .u64 n) := rfl
theorem seC_te (d n : Nat) (v : Value) : (seC d n v)[19]? = some v := rfl
/-- A block of bytes. -/
def U8 (w : World) (g : Nat) : Prop := ∃ cs z, w.heap[g]? = some (.cells cs 5 z)
theorem U8.same {w w' : World} {g : Nat} (h : U8 w g) (hb : g < w.heap.size → w'.heap[g]? = w.heap[g]?) : U8 w' g := by
  obtain ⟨cs, z, h⟩ := h
  exact ⟨cs, z, (hb (Array.getElem?_eq_some_iff.1 h).1).trans h⟩
theorem U8.ne {w : World} {g g' : Nat} {t : TypeId} {cs : List Value} (h : U8 w g) (h' : CB w g' t cs) (ht : t ≠ 5) : g ≠ g' := by
  rintro rfl
  obtain ⟨c, z, h⟩ := h
  have e := h.symm.trans h'
  injection e with e
  injection e with _ e _
  exact ht e.symm
theorem U8.of_own {w : World} {b n c : Nat} {A : Option Addr} {l : List UInt8} (h : OwnB w b 5 (.slice A n c) l) : ∀ a, A = some a → U8 w a.block := by
  intro a ha
  rcases h.2 with ⟨hv, _⟩ | ⟨g, cap, cur, hv, _, hg, _⟩
  · injection hv with h1 _ _; rw [ha] at h1; cases h1
  · injection hv with h1 _ _; rw [ha] at h1; injection h1 with h1; subst h1; exact ⟨_, _, hg⟩
/-- A slice whose bytes lie in neither of these, but in a block of bytes. -/
def PB (w : World) (s : Nat) (r : Option Nat) (A : Option Addr) (l : List UInt8) (c : Nat) : Prop := RB w w.heap.size A l c ∧ ∀ a, A = some a → l = [] ∨ (a.block ≠ s ∧ r ≠ some a.block ∧ U8 w a.block)
/-- A Sealer by symbols: what it has sealed, how many keys it has drawn; all of it lies at or above B. -/
def SS (w : World) (B s : Nat) (r : Option Nat) (T : List Te) (d : Nat) : Prop :=
  B ≤ s ∧ (∀ t ∈ T, t.1.length = 16) ∧ ∃ (v : Value) (rows : List (List Value)), v.ownBlock = r ∧ CB w s 46 (seC d T.length v) ∧ RowX w B 50 18 v rows ∧ rows.length = T.length ∧
    ∀ (k : Nat) (t : Te), T[k]? = some t → ∃ (A : Option Addr) (c : Nat), rows[k]? = some (teC t A c) ∧ PB w s r A t.2.2 c
theorem RB.keptS {w w' : World} {A : Option Addr} {l : List UInt8} {c : Nat} (h : RB w w.heap.size A l c) (hg : w.grownBy w' none) : RB w' w'.heap.size A l c := (h.kept hg (Nat.le_refl _)).more hg.size
theorem RB.apartS {w w' : World} {r : Option Nat} {A : Option Addr} {l : List UInt8} {c : Nat} (h : RB w w.heap.size A l c) (hg : w.grownBy w' r) (ha : ∀ a, A = some a → l = [] ∨ r ≠ some a.block) : RB w' w'.heap.size A l c := by
  obtain ⟨h1, h2, h3⟩ := h
  refine ⟨h1, h2, ?_⟩
  rcases h3 with h3 | ⟨a, h3, h4⟩
  · exact .inl h3
  · refine .inr ⟨a, h3, fun k u hu => ?_⟩
    obtain ⟨h5, h6⟩ := h4 k u hu
    refine ⟨Nat.lt_of_lt_of_le h5 hg.size, ?_⟩
    have hb : r ≠ some a.block := (ha a h3).resolve_left (fun e => by subst e; simp at hu)
    exact (World.cell?_of_block (w := w) (w' := w') (a := a.add k) (by rw [show (a.add k).block = a.block by unfold Addr.add; split <;> rfl]; exact hg.block a.block h5 (fun e => hb e.symm))).trans h6
theorem SS.none {w w' : World} {B s : Nat} {r : Option Nat} {T : List Te} {d : Nat} (h : SS w B s r T d) (hg : w.grownBy w' Option.none) : SS w' B s r T d := by
  obtain ⟨h1, h2, v, rows, h0, h3, h4, h5, h6⟩ := h
  refine ⟨h1, h2, v, rows, h0, h3.kept hg, h4.none hg, h5, fun k t ht => ?_⟩
  obtain ⟨A, c, h7, h8, h9⟩ := h6 k t ht
  exact ⟨A, c, h7, h8.keptS hg, fun a ha => (h9 a ha).imp id fun q => ⟨q.1, q.2.1, q.2.2.same fun hl => hg.block _ hl (by simp)⟩⟩
theorem SS.lt {w : World} {B s : Nat} {r : Option Nat} {T : List Te} {d : Nat} (h : SS w B s r T d) : B ≤ s ∧ s < w.heap.size := by
  obtain ⟨h1, -, v, rows, _, h3, -⟩ := h
  exact ⟨h1, h3.lt⟩
theorem SS.rlt {w : World} {B s : Nat} {r : Option Nat} {T : List Te} {d : Nat} (h : SS w B s r T d) : ∀ z, r = some z → B ≤ z ∧ z < w.heap.size ∧ z ≠ s := by
  obtain ⟨-, -, v, rows, h0, h3, h4, -⟩ := h
  intro z hz
  have h5 := h4.lt z (by rw [h0, hz])
  exact ⟨h5.1, h5.2, fun e => by subst e; exact h4.ne_cells h3 (by decide) (by rw [h0, hz])⟩
/-- A key is drawn. -/
theorem SS.draw {w w' : World} {B s : Nat} {r : Option Nat} {T : List Te} {d d' : Nat} (h : SS w B s r T d) (hg : w.grownBy w' (some s)) (hc : ∀ v, CB w s 46 (seC d T.length v) → CB w' s 46 (seC d' T.length v)) : SS w' B s r T d' := by
  obtain ⟨h1, h2, v, rows, h0, h3, h4, h5, h6⟩ := h
  refine ⟨h1, h2, v, rows, h0, hc v h3, h4.row hg (h4.ne_cells h3 (by decide)), h5, fun k t ht => ?_⟩
  obtain ⟨A, c, h7, h8, h9⟩ := h6 k t ht
  exact ⟨A, c, h7, h8.apartS hg (fun a ha => (h9 a ha).imp id (fun q => fun e => q.1 (by injection e with e; exact e.symm))), fun a ha => (h9 a ha).imp id fun q => ⟨q.1, q.2.1, q.2.2.same fun hl => hg.block _ hl (fun e => q.1 (by injection e with e))⟩⟩
theorem grown_wk {a b : World} (h : a.grownBy b Option.none) (r : Option Nat) : a.grownBy b r := ⟨h.os, h.tape, h.output, h.size, fun k hk _ => h.block k hk (by simp)⟩
theorem grown_tr {a b c : World} {r : Option Nat} (h : a.grownBy b r) (k : b.grownBy c r) : a.grownBy c r := ⟨k.os.trans h.os, k.tape.trans h.tape, k.output.trans h.output, Nat.le_trans h.size k.size, fun i hi hr => (k.block i (Nat.lt_of_lt_of_le hi h.size) hr).trans (h.block i hi hr)⟩
/-- What is written into blocks that weren't there yet isn't told. -/
theorem grown_nw {a b c : World} {r : Option Nat} {g : Nat} (h : a.grownBy b r) (k : b.grownBy c (some g)) (hg : a.heap.size ≤ g) : a.grownBy c r := ⟨k.os.trans h.os, k.tape.trans h.tape, k.output.trans h.output, Nat.le_trans h.size k.size, fun i hi hr => (k.block i (Nat.lt_of_lt_of_le hi h.size) (fun e => by injection e with e; omega)).trans (h.block i hi hr)⟩
theorem CB.cells_eq {w : World} {g : Nat} {t t' : TypeId} {cs ds : List Value} (h : CB w g t cs) (k : CB w g t' ds) : cs = ds := by
  have e : some (Obj.cells cs.toArray t (0, 0)) = some (Obj.cells ds.toArray t' (0, 0)) := (show w.heap[g]? = _ from h).symm.trans k
  injection e with e
  injection e with e _ _
  exact List.toArray_inj e
theorem run_buildS (w : World) : (Instr.build 46 #[(0, .bool true)]).run Tryz.prog w = .ok (.agg (seC 0 0 (.slice none 0 0)).toArray) w := by kernel_rfl

set_option maxRecDepth 10000 in
set_option maxHeartbeats 1000000 in
theorem snew_any (key : List UInt8) (w : World) :
    Calls Tryz.prog 6 #[.bool true, .agg (bcells key).toArray] w fun e w' => e = .returned (.pointer (some ⟨w.heap.size + 1, 0, none⟩)) ∧ SS w' (w.heap.size + 1) (w.heap.size + 1) none [] 0 ∧ w.grownBy w' none := by
  have G0 := Lib.hid (grown_alloc w (.cells (bcells key).toArray 23) none)
  have C1 := Lib.hid (CB.new1 w (.cells (bcells key).toArray 23) 46 (seC 0 0 (.slice none 0 0)))
  have G1 := Lib.hid (grown_trans' G0.out (grown_alloc _ (.cells (seC 0 0 (.slice none 0 0)).toArray 46) none))
  go_enter Tryz.func6, Tryz.ntmps6
  go_wp2_with (refine wpList_buildV rfl rfl (by first | rfl | (go_simp; rfl)) (run_buildS _) ?_)
  go_ret
  refine ⟨rfl, ⟨Nat.le_refl _, (fun t ht => by cases ht), _, [], rfl, C1.out, RowX.nil_ _ _ _ _, rfl, fun k t ht => by simp at ht⟩, G1.out⟩

end Go.Proofs.YthgejidimnbplaaGreatDoor
