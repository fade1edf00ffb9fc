/- A Sealer by symbols: New, Fresh, Drawn, symbolKey, symbolBox. -/
import Derived.Test.YtaanhancjmigdaaDoorSea
namespace Go.Proofs.YtaanhancjmigdaaDoor
open Go.RowKit Go.Maps

/-- The key of a number. -/
def keyN (n : Nat) : List UInt8 := 245 :: (zeros 7 ++ wide8 n)
theorem keyN_len (n : Nat) : (keyN n).length = 16 := by
  unfold keyN
  rw [List.length_cons, List.length_append, zeros_length, wide8_len]
theorem keyN_inj {n m : Nat} (hn : n < 18446744073709551616) (hm : m < 18446744073709551616) (h : keyN n = keyN m) : n = m := by
  unfold keyN at h
  injection h with _ h
  have h2 := List.append_cancel_left h
  rw [← numOf_wide n hn, ← numOf_wide m hm, h2]
theorem zeroK_run (w : World) : (zeroValue 23).run Tryd.prog w = .ok (.agg (bcells (zeros 16)).toArray) w := by kernel_rfl
theorem aggKy : AggT Tryd.prog 23 16 := ⟨fun _ => by kernel_rfl, by kernel_rfl⟩
theorem run_buildK (w : World) : (Instr.build 23 #[(0, .int .u8 245)]).run Tryd.prog w = .ok (.agg (bcells (245 :: zeros 15)).toArray) w := by kernel_rfl
theorem RB.ofCB {w : World} {g : Nat} {t : TypeId} {l : List UInt8} (h : CB w g t (bcells l)) (hm : l.length ≤ maxLen) : RB w w.heap.size (some ⟨g, 0, none⟩) l l.length := by
  refine ⟨Nat.le_refl _, hm, .inr ⟨_, rfl, fun k u hu => ⟨h.lt, ?_⟩⟩⟩
  rw [Addr.add_lit, Nat.zero_add]
  exact h.at_ (by rw [bcells, List.getElem?_map, hu]; rfl)
theorem key_over (n : Nat) : over (bcells (245 :: zeros 15)) 8 (bcells (wide8 n)) = bcells (keyN n) := by
  unfold over keyN
  rw [bcells_length, wide8_len]
  have h1 : (bcells (245 :: zeros 15)).take 8 = bcells (245 :: zeros 7) := rfl
  have h2 : (bcells (245 :: zeros 15)).drop (8 + 8) = [] := rfl
  rw [h1, h2, List.append_nil]
  simp [bcells]
theorem szI64 : (Tryd.prog.info? 3).map (·.size) = some 1 := by kernel_rfl

set_option maxRecDepth 10000 in
set_option maxHeartbeats 1000000 in
theorem symbolKey_any (n : Nat) (w : World) (hn : n < 18446744073709551616) :
    Calls Tryd.prog 25 #[.int .u64 n] w fun e w' => e = .returned (.agg (bcells (keyN n)).toArray) ∧ w.grownBy w' none := by
  have HN := Lib.hid hn
  have Z0 := Lib.hid (CB.new w 23 (bcells (zeros 16)))
  have G0 := Lib.hid (grown_alloc w (.cells (bcells (zeros 16)).toArray 23) none)
  have Z1 := Lib.hid (CB.new1 w (.cells (bcells (zeros 16)).toArray 23) 23 (bcells (zeros 16)))
  have Z01 := Lib.hid (Z0.out.alloc (.cells (bcells (zeros 16)).toArray 23))
  have G1 := Lib.hid (grown_trans' G0.out (grown_alloc _ (.cells (bcells (zeros 16)).toArray 23) none))
  have L16 := Lib.hid (show (bcells (zeros 16)).length = 16 by rw [bcells_length, zeros_length])
  have L15 := Lib.hid (show (bcells (245 :: zeros 15)).length = 16 by rw [bcells_length, List.length_cons, zeros_length])
  have LK := Lib.hid (show (bcells (keyN n)).length = 16 by rw [bcells_length, keyN_len])
  have L8 := Lib.hid (show (bcells (zeros 8)).length = 8 by rw [bcells_length, zeros_length])
  have LW := Lib.hid (show (bcells (wide8 n)).length = 8 by rw [bcells_length, wide8_len])
  have HKO := Lib.hid (key_over n)
  have TK0 := Lib.hid True.intro
  clear hn
  go_enter Tryd.func25, Tryd.ntmps25
  go_wp2_with (first
    | (have hx := TK0; refine wpList_allocC zeroK_run rfl rfl ?_)
    | (have hx := TK0; refine wpList_buildV rfl rfl (by first | rfl | (go_simp; rfl)) (run_buildK _) ?_)
    | (have hx := TK0; refine wpList_storeC (off := 0) (p := bcells (245 :: zeros 15)) aggKy.hi rfl (.tmp 3) (.tmp 5) rfl (.agg (bcells (245 :: zeros 15)).toArray) rfl (bcells_one _) Z1.out L15.out (by rw [L16.out]; omega) (by first | rfl | go_simp) (by first | rfl | go_simp) ?_; intro w2 h2 g2; rw [over_all _ _ (Nat.le_of_eq (by rw [L16.out, L15.out]))] at h2; have C2 := Lib.hid h2; have C20 := Lib.hid (Z01.out.grown g2 (by omega)); have G2 := Lib.hid (none_new G1.out g2 (by omega)); clear h2 g2 hx TK0; have TK1 := Lib.hid True.intro)
    | (go_at_call 40; refine (widen_any n _ HN.out).mono ?_; rintro e w3 ⟨rfl, g⟩; have C3 := Lib.hid (C2.out.kept g); have C30 := Lib.hid (C20.out.kept g); have G3 := Lib.hid (grown_trans' G2.out g); clear g)
    | (have hx := TK1; refine wpList_allocC zero8_run rfl rfl ?_)
    | (have hx := TK1; refine wpList_storeC (off := 0) (p := bcells (wide8 n)) agg8.hi rfl (.tmp 4) (.tmp 7) rfl (.agg (bcells (wide8 n)).toArray) rfl (bcells_one _) (CB.new w3 77 (bcells (zeros 8))) LW.out (by rw [L8.out]; omega) (by first | rfl | go_simp) (by first | rfl | go_simp) ?_; intro w4 h4 g4; rw [over_all _ _ (Nat.le_of_eq (by rw [L8.out, LW.out]))] at h4; have G4' := Lib.hid (none_new (grown_alloc w3 (.cells (bcells (zeros 8)).toArray 77) none) g4 (Nat.le_refl _)); have B4 := Lib.hid h4; have C4 := Lib.hid (C3.out.kept G4'.out); have C40 := Lib.hid (C30.out.kept G4'.out); have G4 := Lib.hid (grown_trans' G3.out G4'.out); clear h4 g4 G4' hx TK1; have TK2 := Lib.hid True.intro))
  go_still_tail 2, (by kernel_rfl)
  repeat still_step
  change wpList _ _ _ _ _ w4.drew
  refine wpList_copyC (off := 8) rfl (.tmp 8) (.tmp 9) 32 32 rfl 5 Tryd.underlying32 sz1B _ _ _ _ _ rfl rfl C4.out.drew (bcells (wide8 n)) (by rw [LW.out]; rfl) (fun j v hv => by rw [Addr.add_lit, Nat.zero_add]; exact B4.out.at_ hv) (by rw [LW.out, L15.out]; omega) (bcells_one _) ?_
  intro w5 h5 g5
  rw [HKO.out] at h5
  have C5 := Lib.hid h5
  have C50 := Lib.hid (C40.out.drew.grown g5 (by omega))
  have G5 := Lib.hid (none_new (grown_drew G4.out) g5 (by omega))
  clear h5 g5
  go_wp2_with (first
    | (have hx := TK2; refine wpList_loadC (off := 0) (p := bcells (keyN n)) aggKy rfl (.tmp 3) rfl C5.out (take_all LK.out) (by rw [LK.out]; omega) (by first | rfl | go_simp) ?_; clear hx TK2; have TK3 := Lib.hid True.intro)
    | (have hx := TK3; refine wpList_storeC (off := 0) (p := bcells (keyN n)) aggKy.hi rfl (.tmp 2) (.tmp 11) rfl (.agg (bcells (keyN n)).toArray) rfl (bcells_one _) C50.out LK.out (by rw [L16.out]; omega) (by first | rfl | go_simp) (by first | rfl | go_simp) ?_; intro w6 h6 g6; rw [over_all _ _ (Nat.le_of_eq (by rw [L16.out, LK.out]))] at h6; have C6 := Lib.hid h6; have G6 := Lib.hid (none_new G5.out g6 (Nat.le_refl _)); clear h6 g6 hx TK3))
  refine bodyPost_ret (results_C1 rfl _ aggKy C6.out LK.out rfl) rfl ⟨rfl, G6.out⟩

/-- The box of a number. -/
def boxN (n : Nat) : List UInt8 := 83 :: wide8 n
theorem boxN_len (n : Nat) : (boxN n).length = 9 := by unfold boxN; rw [List.length_cons, wide8_len]
theorem boxN_inj {n m : Nat} (hn : n < 18446744073709551616) (hm : m < 18446744073709551616) (h : boxN n = boxN m) : n = m := by
  unfold boxN at h
  injection h with _ h
  rw [← numOf_wide n hn, ← numOf_wide m hm, h]
set_option maxRecDepth 10000 in
set_option maxHeartbeats 1000000 in
theorem symbolBox_any (n : Nat) (w : World) (hn : n < 18446744073709551616) :
    Calls Tryd.prog 29 #[.int .u64 n] w fun e w' => ∃ v, e = .returned v ∧ OwnB w' w.heap.size 5 v (boxN n) ∧ w.grownBy w' none := by
  have HN := Lib.hid hn
  have L8 := Lib.hid (show (bcells (zeros 8)).length = 8 by rw [bcells_length, zeros_length])
  have LW := Lib.hid (show (bcells (wide8 n)).length = 8 by rw [bcells_length, wide8_len])
  have LW8 := Lib.hid (wide8_len n)
  have TK0 := Lib.hid True.intro
  clear hn
  go_enter Tryd.func29, Tryd.ntmps29
  go_wp2_with (first
    | (go_at_call 40; refine (widen_any n _ HN.out).mono ?_; rintro e w3 ⟨rfl, g⟩; have G3 := Lib.hid g; clear g)
    | (have hx := TK0; refine wpList_allocC zero8_run rfl rfl ?_; clear hx TK0; have TK1 := Lib.hid True.intro)
    | (have hx := TK1; refine wpList_storeC (off := 0) (p := bcells (wide8 n)) agg8.hi rfl (.tmp 3) (.tmp 5) rfl (.agg (bcells (wide8 n)).toArray) rfl (bcells_one _) (CB.new w3 77 (bcells (zeros 8))) LW.out (by rw [L8.out]; omega) (by first | rfl | go_simp) (by first | rfl | go_simp) ?_; intro w4 h4 g4; rw [over_all _ _ (Nat.le_of_eq (by rw [L8.out, LW.out]))] at h4; have G4 := Lib.hid (grown_trans' G3.out (none_new (grown_alloc w3 (.cells (bcells (zeros 8)).toArray 77) none) g4 (Nat.le_refl _))); have B4 := Lib.hid (h4.alloc (.cells #[.int .u8 83] 5)); have G5 := Lib.hid (grown_trans' G4.out (grown_alloc w4 (.cells #[.int .u8 83] 5) none)); clear h4 g4 hx TK1; have TK2 := Lib.hid True.intro)
    | (at_builtin; have hx := TK2; refine wpList_appB byteT rfl (.tmp 6) (.tmp 7) rfl (OwnB.new1 w4 w.heap.size 5 83 83 rfl G4.out.size) (RB.ofCB B4.out (by rw [LW8.out]; decide)) (by first | rfl | go_simp) (by first | (rw [LW8.out]; rfl) | go_simp) (by rw [LW8.out]; decide) G5.out.size ?_; intro v6 w6 o6 g6 _ _; have O6 := Lib.hid o6; have G6 := Lib.hid (none_new (grown_alloc w4 (.cells #[.int .u8 83] 5) none) g6 (Nat.le_refl _)); clear o6 g6 hx TK2))
  go_ret
  exact ⟨_, rfl, O6.out, grown_trans' G4.out G6.out⟩

/-! The Sealer's cells. -/
abbrev Te := List UInt8 × Int × List UInt8
def teC (t : Te) (A : Option Addr) (c : Nat) : List Value := bcells t.1 ++ [.int .i64 t.2.1, .slice A t.2.2.length c]
def seC (d n : Nat) (v : Value) : List Value := .bool true :: (bcells (zeros 16) ++ [.int .i64 d, .int .u64 n, v])
theorem seC_len (d n : Nat) (v : Value) : (seC d n v).length = 20 := rfl
theorem seC_sy (d n : Nat) (v : Value) : (seC d n v)[0]? = some (.bool true) := rfl
theorem seC_dr (d n : Nat) (v : Value) : (seC d n v)[17]? = some (.int .i64 d) := rfl
theorem seC_se (d n : Nat) (v : Value) : (seC d n v)[18]? = some (.int .u64 n) := rfl
theorem seC_te (d n : Nat) (v : Value) : (seC d n v)[19]? = some v := rfl
/-- A slice whose bytes lie in neither of these. -/
def PB (w : World) (s : Nat) (r : Option Nat) (A : Option Addr) (l : List UInt8) (c : Nat) : Prop := RB w w.heap.size A l c ∧ ∀ a, A = some a → l = [] ∨ (a.block ≠ s ∧ r ≠ some a.block)
/-- A Sealer by symbols: what it has sealed, how many keys it has drawn; all of it lies at or above B. -/
def SS (w : World) (B s : Nat) (r : Option Nat) (T : List Te) (d : Nat) : Prop :=
  B ≤ s ∧ (∀ t ∈ T, t.1.length = 16) ∧ ∃ (v : Value) (rows : List (List Value)), v.ownBlock = r ∧ CB w s 63 (seC d T.length v) ∧ RowX w B 68 18 v rows ∧ rows.length = T.length ∧
    ∀ (k : Nat) (t : Te), T[k]? = some t → ∃ (A : Option Addr) (c : Nat), rows[k]? = some (teC t A c) ∧ PB w s r A t.2.2 c
theorem RB.keptS {w w' : World} {A : Option Addr} {l : List UInt8} {c : Nat} (h : RB w w.heap.size A l c) (hg : w.grownBy w' none) : RB w' w'.heap.size A l c := (h.kept hg (Nat.le_refl _)).more hg.size
theorem RB.apartS {w w' : World} {r : Option Nat} {A : Option Addr} {l : List UInt8} {c : Nat} (h : RB w w.heap.size A l c) (hg : w.grownBy w' r) (ha : ∀ a, A = some a → l = [] ∨ r ≠ some a.block) : RB w' w'.heap.size A l c := by
  obtain ⟨h1, h2, h3⟩ := h
  refine ⟨h1, h2, ?_⟩
  rcases h3 with h3 | ⟨a, h3, h4⟩
  · exact .inl h3
  · refine .inr ⟨a, h3, fun k u hu => ?_⟩
    obtain ⟨h5, h6⟩ := h4 k u hu
    refine ⟨Nat.lt_of_lt_of_le h5 hg.size, ?_⟩
    have hb : r ≠ some a.block := (ha a h3).resolve_left (fun e => by subst e; simp at hu)
    exact (World.cell?_of_block (w := w) (w' := w') (a := a.add k) (by rw [show (a.add k).block = a.block by unfold Addr.add; split <;> rfl]; exact hg.block a.block h5 (fun e => hb e.symm))).trans h6
theorem SS.none {w w' : World} {B s : Nat} {r : Option Nat} {T : List Te} {d : Nat} (h : SS w B s r T d) (hg : w.grownBy w' Option.none) : SS w' B s r T d := by
  obtain ⟨h1, h2, v, rows, h0, h3, h4, h5, h6⟩ := h
  refine ⟨h1, h2, v, rows, h0, h3.kept hg, h4.none hg, h5, fun k t ht => ?_⟩
  obtain ⟨A, c, h7, h8, h9⟩ := h6 k t ht
  exact ⟨A, c, h7, h8.keptS hg, h9⟩
theorem SS.lt {w : World} {B s : Nat} {r : Option Nat} {T : List Te} {d : Nat} (h : SS w B s r T d) : B ≤ s ∧ s < w.heap.size := by
  obtain ⟨h1, -, v, rows, _, h3, -⟩ := h
  exact ⟨h1, h3.lt⟩
theorem SS.rlt {w : World} {B s : Nat} {r : Option Nat} {T : List Te} {d : Nat} (h : SS w B s r T d) : ∀ z, r = some z → B ≤ z ∧ z < w.heap.size ∧ z ≠ s := by
  obtain ⟨-, -, v, rows, h0, h3, h4, -⟩ := h
  intro z hz
  have h5 := h4.lt z (by rw [h0, hz])
  exact ⟨h5.1, h5.2, fun e => by subst e; exact h4.ne_cells h3 (by decide) (by rw [h0, hz])⟩
/-- A key is drawn. -/
theorem SS.draw {w w' : World} {B s : Nat} {r : Option Nat} {T : List Te} {d d' : Nat} (h : SS w B s r T d) (hg : w.grownBy w' (some s)) (hc : ∀ v, CB w s 63 (seC d T.length v) → CB w' s 63 (seC d' T.length v)) : SS w' B s r T d' := by
  obtain ⟨h1, h2, v, rows, h0, h3, h4, h5, h6⟩ := h
  refine ⟨h1, h2, v, rows, h0, hc v h3, h4.row hg (h4.ne_cells h3 (by decide)), h5, fun k t ht => ?_⟩
  obtain ⟨A, c, h7, h8, h9⟩ := h6 k t ht
  exact ⟨A, c, h7, h8.apartS hg (fun a ha => (h9 a ha).imp id (fun q => fun e => q.1 (by injection e with e; exact e.symm))), h9⟩
theorem grown_wk {a b : World} (h : a.grownBy b Option.none) (r : Option Nat) : a.grownBy b r := ⟨h.os, h.tape, h.output, h.size, fun k hk _ => h.block k hk (by simp)⟩
theorem grown_tr {a b c : World} {r : Option Nat} (h : a.grownBy b r) (k : b.grownBy c r) : a.grownBy c r := ⟨k.os.trans h.os, k.tape.trans h.tape, k.output.trans h.output, Nat.le_trans h.size k.size, fun i hi hr => (k.block i (Nat.lt_of_lt_of_le hi h.size) hr).trans (h.block i hi hr)⟩
/-- What is written into blocks that weren't there yet isn't told. -/
theorem grown_nw {a b c : World} {r : Option Nat} {g : Nat} (h : a.grownBy b r) (k : b.grownBy c (some g)) (hg : a.heap.size ≤ g) : a.grownBy c r := ⟨k.os.trans h.os, k.tape.trans h.tape, k.output.trans h.output, Nat.le_trans h.size k.size, fun i hi hr => (k.block i (Nat.lt_of_lt_of_le hi h.size) (fun e => by injection e with e; omega)).trans (h.block i hi hr)⟩
theorem CB.cells_eq {w : World} {g : Nat} {t t' : TypeId} {cs ds : List Value} (h : CB w g t cs) (k : CB w g t' ds) : cs = ds := by
  have e : some (Obj.cells cs.toArray t (0, 0)) = some (Obj.cells ds.toArray t' (0, 0)) := (show w.heap[g]? = _ from h).symm.trans k
  injection e with e
  injection e with e _ _
  exact List.toArray_inj e
theorem run_buildS (w : World) : (Instr.build 63 #[(0, .bool true)]).run Tryd.prog w = .ok (.agg (seC 0 0 (.slice none 0 0)).toArray) w := by kernel_rfl

set_option maxRecDepth 10000 in
set_option maxHeartbeats 1000000 in
theorem snew_any (key : List UInt8) (w : World) :
    Calls Tryd.prog 11 #[.bool true, .agg (bcells key).toArray] w fun e w' => e = .returned (.pointer (some ⟨w.heap.size + 1, 0, none⟩)) ∧ SS w' (w.heap.size + 1) (w.heap.size + 1) none [] 0 ∧ w.grownBy w' none := by
  have G0 := Lib.hid (grown_alloc w (.cells (bcells key).toArray 23) none)
  have C1 := Lib.hid (CB.new1 w (.cells (bcells key).toArray 23) 63 (seC 0 0 (.slice none 0 0)))
  have G1 := Lib.hid (grown_trans' G0.out (grown_alloc _ (.cells (seC 0 0 (.slice none 0 0)).toArray 63) none))
  go_enter Tryd.func11, Tryd.ntmps11
  go_wp2_with (refine wpList_buildV rfl rfl (by first | rfl | (go_simp; rfl)) (run_buildS _) ?_)
  go_ret
  refine ⟨rfl, ⟨Nat.le_refl _, (fun t ht => by cases ht), _, [], rfl, C1.out, RowX.nil_ _ _ _ _, rfl, fun k t ht => by simp at ht⟩, G1.out⟩

set_option maxRecDepth 10000 in
set_option maxHeartbeats 1000000 in
theorem fresh_any (w : World) (B s : Nat) (r : Option Nat) (T : List Te) (d : Nat) (h : SS w B s r T d) (hd : d < 4611686018427387904) :
    Calls Tryd.prog 13 #[.pointer (some ⟨s, 0, none⟩)] w fun e w' => e = .returned (.agg (bcells (keyN d)).toArray) ∧ SS w' B s r T (d + 1) ∧ w.grownBy w' (some s) := by
  have HD := Lib.hid (show d < 18446744073709551616 by omega)
  have Z0 := Lib.hid (CB.new w 23 (bcells (zeros 16)))
  have G0 := Lib.hid (grown_alloc w (.cells (bcells (zeros 16)).toArray 23) none)
  have S0 := Lib.hid (h.none G0.out)
  have HSS := Lib.hid h
  have HLT := Lib.hid h.lt
  obtain ⟨-, -, v, rows, -, hcb, -⟩ := S0.out
  have HCB := Lib.hid hcb
  have q0 := hcb.at_ (seC_sy d T.length v)
  have q17 := hcb.at_ (seC_dr d T.length v)
  have L16 := Lib.hid (show (bcells (zeros 16)).length = 16 by rw [bcells_length, zeros_length])
  have LK := Lib.hid (show (bcells (keyN d)).length = 16 by rw [bcells_length, keyN_len])
  have hw1 : IntKind.u64.wrap (d : Int) = (d : Int) := by rw [show IntKind.u64.wrap (d : Int) = (d : Int) % 18446744073709551616 by simp [IntKind.wrap, IntKind.bits, IntKind.signed]]; omega
  have hw2 : IntKind.i64.wrap ((d : Int) + 1) = ((d + 1 : Nat) : Int) := by
    have h : IntKind.i64.wrap ((d : Int) + 1) = if 9223372036854775808 ≤ ((d : Int) + 1) % 18446744073709551616 then ((d : Int) + 1) % 18446744073709551616 - 18446744073709551616 else ((d : Int) + 1) % 18446744073709551616 := by
      simp [IntKind.wrap, IntKind.bits, IntKind.signed]
    rw [h]
    split <;> omega
  have TK0 := Lib.hid True.intro
  clear h hcb
  go_enter Tryd.func13, Tryd.ntmps13
  go_wp2_with (first
    | refine wpList_allocC zeroK_run rfl rfl ?_
    | (have hx := TK0; refine wpList_setC (off := 17) szI64 rfl (.tmp 15) (.tmp 13) rfl .i64 ((d : Int) + 1) HCB.out (by rw [seC_len]; omega) (by first | rfl | go_simp) (by first | rfl | go_simp) ?_; intro w2 h2 g2; have h2 : CB w2 s 63 (seC (d + 1) T.length v) := h2; have q2 := h2.at_ (seC_sy (d + 1) T.length v); have H2 := Lib.hid h2; have G2 := Lib.hid g2; have Z2 := Lib.hid (Z0.out.grown g2 (by have := HLT.out; omega)); clear h2 g2 q0 q17 hx TK0; have TK1 := Lib.hid True.intro)
    | (go_at_call 25; refine (symbolKey_any d _ HD.out).mono ?_; rintro e w3 ⟨rfl, g3⟩; have Z3 := Lib.hid (Z2.out.kept g3); have G3 := Lib.hid g3; clear g3)
    | (have hx := TK1; refine wpList_storeC (off := 0) (p := bcells (keyN d)) aggKy.hi rfl (.tmp 2) (.tmp 21) rfl (.agg (bcells (keyN d)).toArray) rfl (bcells_one _) Z3.out LK.out (by rw [L16.out]; omega) (by first | rfl | go_simp) (by first | rfl | go_simp) ?_; intro w4 h4 g4; rw [over_all _ _ (Nat.le_of_eq (by rw [L16.out, LK.out]))] at h4; have C4 := Lib.hid h4; have G4 := Lib.hid g4; clear h4 g4 hx TK1))
  trace_state
  have C42 := Lib.hid ((H2.out.kept G3.out).grown G4.out (by have := HLT.out; omega))
  have GA := Lib.hid (grown_nw (grown_tr (grown_tr (grown_alloc w (.cells (bcells (zeros 16)).toArray 23) (some s)) G2.out) (grown_wk G3.out (some s))) G4.out (Nat.le_refl _))
  refine bodyPost_ret (results_C1 rfl _ aggKy C4.out LK.out rfl) rfl ⟨rfl, SS.draw HSS.out GA.out (fun v' hv' => ?_), GA.out⟩
  have e := (hv'.kept (grown_alloc w (.cells (bcells (zeros 16)).toArray 23) none)).cells_eq HCB.out
  have e2 : some v' = some v := by
    have := congrArg (fun l : List Value => l[19]?) e
    exact this
  injection e2 with e2
  rw [e2]
  exact C42.out
end Go.Proofs.YtaanhancjmigdaaDoor
