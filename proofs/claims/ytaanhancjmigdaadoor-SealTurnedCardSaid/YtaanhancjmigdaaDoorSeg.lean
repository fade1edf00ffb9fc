/- Keys as keys of a map; the walk of the law SealFresh. -/
import Derived.Test.YtaanhancjmigdaaDoorSef
import Derived.DeepKeys4
import Derived.Test.YtaanhancjmigdaaDoorOpA
namespace Go.Proofs.YtaanhancjmigdaaDoor
open Go.RowKit Go.Maps

theorem bcells_inj : ∀ {a b : List UInt8}, bcells a = bcells b → a = b
  | [], [], _ => rfl
  | [], _ :: _, h => by simp [bcells] at h
  | _ :: _, [], h => by simp [bcells] at h
  | x :: a, y :: b, h => by
    simp only [bcells, List.map_cons, List.cons.injEq, Value.int.injEq, true_and] at h
    rw [UInt8.toNat_inj.1 (Int.ofNat.inj h.1), bcells_inj (a := a) (b := b) h.2]
section
variable {P : Program}
theorem mapM_some {α β : Type} {f : α → Option β} : ∀ l : List α, (∀ x ∈ l, ∃ y, f x = some y) → ∃ ys, l.mapM f = some ys
  | [], _ => ⟨[], by simp⟩
  | x :: l, h => by
    obtain ⟨y, hy⟩ := h x (by simp)
    obtain ⟨ys, hys⟩ := mapM_some l (fun z hz => h z (by simp [hz]))
    exact ⟨y :: ys, by simp [List.mapM_cons, hy, hys]⟩
theorem keyLits_arr {d n : Nat} {t e : TypeId} {cs : List Value} (hu : P.underlying t = some (.array n e)) (hl : cs.length = P.cellsOf t)
    (h : ∀ i, i < n → ∃ ls, P.keyLits d e ((cs.drop (i * P.cellsOf e)).take (P.cellsOf e)) = some ls) : ∃ ls, P.keyLits (d + 1) t cs = some ls := by
  obtain ⟨ys, hys⟩ := mapM_some (List.range n) (fun i hi => h i (List.mem_range.1 hi))
  unfold Program.keyLits
  rw [hu]
  simp only []
  rw [if_pos hl, hys]
  exact ⟨_, rfl⟩
theorem keyLits_int {d : Nat} {t : TypeId} {q : IntKind} {x : Int} (hu : P.underlying t = some (.int q)) (hw : (Lit.int q x).wf = true) : ∃ ls, P.keyLits (d + 1) t [.int q x] = some ls := by
  unfold Program.keyLits
  rw [hu]
  simp only []
  rw [if_pos ⟨trivial, hw⟩]
  exact ⟨_, rfl⟩
end
theorem wf_u8 (u : UInt8) : (Lit.int .u8 (u.toNat : Int)).wf = true := by
  have := u.toNat_lt
  simp only [Lit.wf, Bool.and_eq_true, decide_eq_true_eq]
  exact ⟨by show (0 : Int) ≤ _; omega, by show (_ : Int) ≤ 255; omega⟩
def keyV (l : List UInt8) : Value := .agg (bcells l).toArray
theorem keyV_inj (a b : List UInt8) (h : keyV a = keyV b) : a = b := by
  have := Value.agg.inj h
  exact bcells_inj (by simpa using congrArg Array.toList this)
set_option maxRecDepth 100000 in
theorem key_ok (l : List UInt8) (h : l.length = 16) : OkK Tryd.prog 23 keyV l := by
  have hc4 : Tryd.prog.cellsOf 23 = 16 := by kernel_rfl
  have hc5 : Tryd.prog.cellsOf 5 = 1 := by kernel_rfl
  have hm : Tryd.prog.types.size = (Tryd.prog.types.size - 1) + 1 := by
    have : 1 ≤ Tryd.prog.types.size := by decide +kernel
    omega
  obtain ⟨ls, hls⟩ : ∃ ls, Tryd.prog.keyLits ((Tryd.prog.types.size - 1) + 1 + 1) 23 (bcells l) = some ls := by
    refine keyLits_arr Tryd.underlying23 (by rw [bcells_length, h, hc4]) (fun i hi => ?_)
    rw [hc5, Nat.mul_one]
    have hi' : i < (bcells l).length := by rw [bcells_length, h]; exact hi
    rw [List.drop_eq_getElem_cons hi', List.take_succ_cons, List.take_zero]
    have hx : (bcells l)[i] = .int .u8 ((l[i]'(by rw [h]; exact hi)).toNat : Int) := by simp [bcells]
    rw [hx]
    exact keyLits_int Tryd.underlying5 (wf_u8 _)
  have hk : Tryd.prog.keyType 23 = true := by kernel_rfl
  have hf : (keyV l).formed Tryd.prog 23 = true := by
    unfold keyV Value.formed
    rw [Tryd.underlying23]
    simp only []
    rw [List.size_toArray, bcells_length, h, hc4]
    rfl
  refine OkK.of (l := .string (keyBytes ls)) ?_
  unfold keyOf
  rw [Tryd.underlying23]
  simp only []
  rw [hk, hf]
  show Option.map _ (Tryd.prog.keyLits (Tryd.prog.types.size + 1) 23 (keyV l).cells.toList) = _
  have e : (keyV l).cells.toList = bcells l := by simp [keyV, Value.cells]
  rw [e, hm, hls]
  rfl
set_option maxRecDepth 100000 in
theorem keyedK : Keyed Tryd.prog 23 :=
  Keyed.of_law (deep_law_laid (by kernel_rfl) (m := 3) (by omega) (by decide +kernel) (by kernel_rfl) (by kernel_rfl))
theorem wpList_cmpVg {P : Program} {ops : Array Oper} {rest : List Oper} {o : Oper} {a : Act} {w : World} {Q : Exit → Act → World → Prop} {op : BinOp} {ty k : TypeId} {A B : Array Value} {c : Bool} (h2 : op = .eql ∨ op = .neq) (hgt : P.eqGuardType P.depth ty = false) (hw : Region.wanted o (yielded ops a.tmps) = true) (x y : Operand) (ho : o.op = .binOp op ty x y k) (hx : a.eval x = .agg A) (hy : a.eval y = .agg B) (hE : ∀ w, (binOp op ty (.agg A) (.agg B)).run P w = .ok (.bool c) w) (hk : wpList P ops Q rest (a.put o.dst (.bool c)) w) : wpList P ops Q (o :: rest) a w := by
  refine wpList_step fun K hK => ?_
  rw [if_pos hw]
  unfold Oper.wp execOp
  rcases h2 with rfl | rfl
  · simp only [ho, hx, hy, Sem.run_bind, Sem.run_pure, Result.andThen_ok, hE, run_eqGuard_agg w .eql ty x y A B hgt]
    exact hK _ _ hk
  · simp only [ho, hx, hy, Sem.run_bind, Sem.run_pure, Result.andThen_ok, hE, run_eqGuard_agg w .neq ty x y A B hgt]
    exact hK _ _ hk
section
variable {P : Program} {k : TypeId} {α β : Type} {kv : α → Value} {vv : β → Value} {M : List (α × β)} {w : World} {ops : Array Oper} {rest : List Oper} {o : Oper} {a : Act} {Q : Exit → Act → World → Prop} {b : Nat} {t e : TypeId}
/-- 'm[k]', the key isn't there. -/
theorem wpList_look1Out [DecidableEq α] (K : Keyed P k) (hi : ∀ a b : α, kv a = kv b → a = b) (hg : o.guard = none) (m x : Operand) (hop : o.op = Op.lookup t m x false) (ht : P.underlying t = some (.map k e)) {z : Value} (hz : ∀ w, (zeroValue e).run P w = .ok z w)
    (h : MT P k kv vv w b M) (hm : a.eval m = .map (some b)) (ky : α) (hok : OkK P k kv ky) (hx : a.eval x = kv ky) (hout : ky ∉ keysM M)
    (hK : wpList P ops Q rest (a.put o.dst z) w) : wpList P ops Q (o :: rest) a w := by
  have hh : Maps.has (datM P k kv vv M) (litOf P k kv ky) = false := by rw [has_datM K hi h.1 hok]; exact decide_eq_false hout
  refine wpList_plain hg fun K' hK' => ?_
  obtain ⟨u, ps, hrun, hv⟩ := h.2.lookup K ht (hz w) (zd := .held z) (zp := []) rfl hok
  rw [Maps.atKey_of_not_has hh] at hv
  unfold RV at hv
  simp at hv
  rw [hv.1] at hrun
  unfold Oper.wp
  simp [execOp, hop, hm, hx, hrun, Result.andThen]
  exact hK' _ _ hK
end
def boolV (b : Bool) : Value := .bool b
/-- The keys that were drawn. -/
def drawnM (i : Nat) : List (List UInt8 × Bool) := (List.range i).map fun j => (keyN j, true)
theorem drawnM_len (i : Nat) : (drawnM i).length = i := by simp [drawnM]
theorem drawnM_no {i : Nat} (h : i < 18446744073709551616) : keyN i ∉ keysM (drawnM i) := by
  intro hm
  obtain ⟨v, hv⟩ := mem_keysM.1 hm
  obtain ⟨j, hj, he⟩ := List.mem_map.1 hv
  have hji := List.mem_range.1 hj
  have := keyN_inj (by omega) h (Prod.mk.inj he).1
  omega
theorem drawnM_next {i : Nat} (h : i < 18446744073709551616) : withoutM (drawnM i) (keyN i) ++ [(keyN i, true)] = drawnM (i + 1) := by
  have h1 : withoutM (drawnM i) (keyN i) = drawnM i := by
    unfold withoutM
    rw [List.filter_eq_self]
    intro p hp
    exact decide_eq_true (fun e => drawnM_no h (mem_keysM.2 ⟨p.2, by rw [← e]; exact hp⟩))
  rw [h1]
  unfold drawnM
  rw [List.range_succ, List.map_append]
  rfl
theorem SS.nil_far {w w' : World} {B s g d : Nat} (h : SS w B s Option.none [] d) (hg : w.grownBy w' (some g)) (hne : s ≠ g) : SS w' B s Option.none [] d := by
  obtain ⟨h1, h2, v, rows, h0, h3, h4, h5, h6⟩ := h
  refine ⟨h1, h2, v, rows, h0, h3.grown hg hne, ?_, h5, fun k t ht => by simp at ht⟩
  refine h4.kept hg (.inl h0)
set_option maxRecDepth 100000 in
set_option maxHeartbeats 4000000 in
theorem walk_SealFresh (w : World) (n : Int) (_ : (Lit.int .i64 n).wf = true) (other : List UInt8) (hk : other.length = 16) :
    Calls Tryd.prog 5 #[.int .i64 n, .agg (bcells other).toArray] w fun e w' => e = .returned (.bool true) ∧ Below w.heap.size w w' := by
  have HK := Lib.hid hk
  have K0 := Lib.hid (CB.new w 23 (bcells other))
  have G0 := Lib.hid (grown_alloc w (.cells (bcells other).toArray 23) none)
  obtain ⟨q, hql, hqk⟩ := and_low n 6 (by decide)
  have hqk' : bits .and .i64 n 63 = (q : Int) := hqk
  have hqi : (q : Int) < 64 := by omega
  have hqn : q < 64 := hql
  have HQ := Lib.hid hqn
  have hmm := @run_makeMap Tryd.prog
  have TK0 := Lib.hid True.intro
  clear hk hqk hql
  go_enter Tryd.func5, Tryd.ntmps5
  go_wp2_with (first
    | (go_at_call 9; refine (sspeaks_any _).mono ?_; rintro e w1 ⟨rfl, g⟩; have G1 := Lib.hid (grown_trans' G0.out g); have K1 := Lib.hid (K0.out.kept g); clear g)
    | (refine wpList_loadC (off := 0) (p := bcells other) aggKy rfl (.tmp 3) rfl K1.out (take_all (by rw [bcells_length]; exact HK.out)) (by rw [bcells_length, HK.out]; omega) (by first | rfl | go_simp) ?_)
    | (go_at_call 11; refine (snew_any other _).mono ?_; rintro e w2 ⟨rfl, s2, g⟩; have S2 := Lib.hid s2; have G2 := Lib.hid (grown_trans' G1.out g); have K2 := Lib.hid (K1.out.kept g); clear g s2))
  obtain ⟨s, hs⟩ : ∃ s, w1.heap.size + 1 = s := ⟨_, rfl⟩
  rw [hs] at S2 ⊢
  obtain ⟨mb, hmb⟩ : ∃ s, w2.heap.size = s := ⟨_, rfl⟩
  have M2 := Lib.hid (MT.made (P := Tryd.prog) (k := 23) (kv := keyV) (vv := boolV) w2)
  have G2m := Lib.hid (grown_alloc w2 (.map #[] 0) none)
  rw [hmb] at M2 ⊢
  have HSW := Lib.hid (show w.heap.size ≤ s by have := G1.out.size; omega)
  have HKS := Lib.hid (show w.heap.size ≠ s by have := G1.out.size; omega)
  have HSM := Lib.hid (show s ≠ mb by have := S2.out.lt; omega)
  have HMS := Lib.hid (show some mb ≠ some s by intro e; injection e with e; have := S2.out.lt; omega)
  have HMW := Lib.hid (show w.heap.size ≤ mb by have := G2.out.size; omega)
  have HKM := Lib.hid (show w.heap.size ≠ mb by have := S2.out.lt; have := G1.out.size; omega)
  have L16 := Lib.hid (show (bcells (zeros 16)).length = 16 by rw [bcells_length, zeros_length])
  clear hs hmb hmm
  go_loopw [7] (fun v wr => ∃ i : Nat, v = .int .i64 i ∧ i ≤ q + 1 ∧ SS wr s s none [] i ∧ MT Tryd.prog 23 keyV boolV wr mb (drawnM i) ∧ CB wr w.heap.size 23 (bcells other) ∧ w.grownBy wr none) (fun v _ => q + 1 - (intOf v).toNat)
  case atStart => exact ⟨0, rfl, Nat.zero_le _, S2.out.none G2m.out, M2.out, K2.out.kept G2m.out, grown_trans' G2.out G2m.out⟩
  case round =>
    obtain ⟨i, rfl, hi, hss, hmt, hko, hg⟩ := hrel
    have SR := Lib.hid hss
    have MR := Lib.hid hmt
    have KR := Lib.hid hko
    have GR := Lib.hid hg
    have HI := Lib.hid (show i ≤ 64 by have := HQ.out; omega)
    have hi64 : (i : Int) ≤ 64 := by have := HQ.out; omega
    clear hss hmt hko hg
    by_cases hlt : i < q + 1
    · have hlti : (i : Int) < 1 + (q : Int) := by omega
      have LK := Lib.hid (show (bcells (keyN i)).length = 16 by rw [bcells_length, keyN_len])
      have TK1 := Lib.hid True.intro
      by_cases hoe : keyN i = other
      · have HCM := Lib.hid (show ∀ w, (binOp .eql 23 (.agg (bcells (keyN i)).toArray) (.agg (bcells other).toArray)).run Tryd.prog w = .ok (.bool true) w from fun w => by rw [run_eqlK (keyN_len i) HK.out, hoe]; simp)
        have HO0 := Lib.hid (show (bcells other)[0]? = some (.int .u8 245) by rw [← hoe]; rfl)
        clear hoe hlt hi
        go_wp2_with (first
          | (go_at_call 13; refine (fresh_any _ _ _ _ _ _ SR.out (by have := HI.out; omega)).mono ?_; rintro e w3 ⟨rfl, s3, g3⟩; have S3 := Lib.hid s3; have M3 := Lib.hid (MR.out.kept g3 HMS.out); have K3 := Lib.hid (KR.out.grown g3 HKS.out); have G3 := Lib.hid (none_new GR.out g3 HSW.out); clear s3 g3 TK1; have TK2 := Lib.hid True.intro)
          | (have hx := TK2; clear hx; refine wpList_allocC zeroK_run rfl rfl ?_)
          | (have hx := TK2; clear hx; refine wpList_storeC (off := 0) (p := bcells (keyN i)) aggKy.hi rfl (.tmp 8) (.tmp 24) rfl (.agg (bcells (keyN i)).toArray) rfl (bcells_one _) (CB.new w3 23 (bcells (zeros 16))) LK.out (by rw [L16.out]; omega) (by first | rfl | go_simp) (by first | rfl | go_simp) ?_; intro w4 h4 g4; rw [over_all _ _ (Nat.le_of_eq (by rw [L16.out, LK.out]))] at h4; have gs := none_new (grown_alloc w3 (.cells (bcells (zeros 16)).toArray 23) none) g4 (Nat.le_refl _); have q0 := h4.at_ (i := 0) (v := .int .u8 245) rfl; have C4 := Lib.hid h4; have S4 := Lib.hid (S3.out.none gs); have M4 := Lib.hid (M3.out.none gs); have K4 := Lib.hid (K3.out.kept gs); have G4 := Lib.hid (grown_trans' G3.out gs); have HG8 := Lib.hid (show w.heap.size ≤ w3.heap.size from G3.out.size); clear h4 g4 gs TK2; have TK3 := Lib.hid True.intro)
          | (have hx := TK3; clear hx; refine wpList_loadC (off := 0) (p := bcells (keyN i)) aggKy rfl (.tmp 8) rfl C4.out (take_all LK.out) (by rw [LK.out]; omega) (by first | rfl | go_simp) ?_; clear TK3; have TK4 := Lib.hid True.intro)
          | (have hx := TK4; clear hx; refine wpList_look1Out keyedK keyV_inj rfl (.tmp 25) (.tmp 26) rfl Tryd.underlying51 (z := .bool false) (fun _ => by kernel_rfl) M4.out (by first | rfl | go_simp) (keyN i) (key_ok _ (keyN_len i)) (by first | rfl | go_simp) (drawnM_no (by have := HI.out; omega)) ?_; clear TK4; have TK5 := Lib.hid True.intro)
          | (have hx := TK5; clear hx; refine wpList_loadCg (off := 0) (p := bcells (keyN i)) aggKy (by first | rfl | go_simp) (.tmp 8) rfl C4.out (take_all LK.out) (by rw [LK.out]; omega) (by first | rfl | go_simp) ?_; clear TK5; have TK6 := Lib.hid True.intro)
          | (have hx := TK6; clear hx; refine wpList_loadCg (off := 0) (p := bcells other) aggKy (by first | rfl | go_simp) (.tmp 3) rfl K4.out (take_all (by rw [bcells_length]; exact HK.out)) (by rw [bcells_length, HK.out]; omega) (by first | rfl | go_simp) ?_; clear TK6; have TK7 := Lib.hid True.intro)
          | (have hx := TK7; clear hx; refine wpList_cmpVg (.inl rfl) (by kernel_rfl) (by first | rfl | go_simp) (.tmp 34) (.tmp 35) rfl (by first | rfl | go_simp) (by first | rfl | go_simp) HCM.out ?_; have qo := K4.out.at_ (i := 0) HO0.out; clear TK7; have TK8 := Lib.hid True.intro)
          | (go_at_call 21; have hx := TK8; clear hx; refine (drawn_any _ _ _ _ _ _ S4.out).mono ?_; rintro e w5 ⟨rfl, rfl⟩; clear TK8 qo q0; have TK9 := Lib.hid True.intro)
          | (have hx := TK9; clear hx; refine wpList_loadC (off := 0) (p := bcells (keyN i)) aggKy rfl (.tmp 8) rfl C4.out (take_all LK.out) (by rw [LK.out]; omega) (by first | rfl | go_simp) ?_; clear TK9; have TKa := Lib.hid True.intro)
          | (have hx := TKa; clear hx; refine wpList_putM (vl := true) keyedK keyV_inj rfl (.tmp 50) (.tmp 51) _ rfl Tryd.underlying51 M4.out (by rw [drawnM_len]; have := HI.out; unfold maxLen; omega) (by first | rfl | go_simp) (keyN i) (hok := key_ok _ (keyN_len i)) (by first | rfl | go_simp) (by first | rfl | go_simp) ?_; intro w6 m6 t6; have g6 := t6.grown; rw [drawnM_next (by have := HI.out; omega)] at m6; have M6 := Lib.hid m6; have S6 := Lib.hid (S4.out.nil_far g6 HSM.out); have K6 := Lib.hid (K4.out.grown g6 HKM.out); have G6 := Lib.hid (none_new G4.out g6 HMW.out); clear m6 t6 g6 TKa))
        go_roundw
        case rel => exact ⟨i + 1, by go_num, by have := HQ.out; omega, S6.out, M6.out, K6.out, G6.out⟩
        case measure => simp [intOf]; omega
      · obtain ⟨o0, ot, ho0⟩ : ∃ a b, other = a :: b := by
          cases other with
          | nil => have := HK.out; simp at this
          | cons a b => exact ⟨a, b, rfl⟩
        have HCM := Lib.hid (show ∀ w, (binOp .eql 23 (.agg (bcells (keyN i)).toArray) (.agg (bcells other).toArray)).run Tryd.prog w = .ok (.bool false) w from fun w => by rw [run_eqlK (keyN_len i) HK.out, beq_false_of_ne hoe])
        have HO0 := Lib.hid (show (bcells other)[0]? = some (.int .u8 (o0.toNat : Int)) by rw [ho0]; rfl)
        clear hoe hlt hi ho0
        go_wp2_with (first
          | (go_at_call 13; refine (fresh_any _ _ _ _ _ _ SR.out (by have := HI.out; omega)).mono ?_; rintro e w3 ⟨rfl, s3, g3⟩; have S3 := Lib.hid s3; have M3 := Lib.hid (MR.out.kept g3 HMS.out); have K3 := Lib.hid (KR.out.grown g3 HKS.out); have G3 := Lib.hid (none_new GR.out g3 HSW.out); clear s3 g3 TK1; have TK2 := Lib.hid True.intro)
          | (have hx := TK2; clear hx; refine wpList_allocC zeroK_run rfl rfl ?_)
          | (have hx := TK2; clear hx; refine wpList_storeC (off := 0) (p := bcells (keyN i)) aggKy.hi rfl (.tmp 8) (.tmp 24) rfl (.agg (bcells (keyN i)).toArray) rfl (bcells_one _) (CB.new w3 23 (bcells (zeros 16))) LK.out (by rw [L16.out]; omega) (by first | rfl | go_simp) (by first | rfl | go_simp) ?_; intro w4 h4 g4; rw [over_all _ _ (Nat.le_of_eq (by rw [L16.out, LK.out]))] at h4; have gs := none_new (grown_alloc w3 (.cells (bcells (zeros 16)).toArray 23) none) g4 (Nat.le_refl _); have q0 := h4.at_ (i := 0) (v := .int .u8 245) rfl; have C4 := Lib.hid h4; have S4 := Lib.hid (S3.out.none gs); have M4 := Lib.hid (M3.out.none gs); have K4 := Lib.hid (K3.out.kept gs); have G4 := Lib.hid (grown_trans' G3.out gs); have HG8 := Lib.hid (show w.heap.size ≤ w3.heap.size from G3.out.size); clear h4 g4 gs TK2; have TK3 := Lib.hid True.intro)
          | (have hx := TK3; clear hx; refine wpList_loadC (off := 0) (p := bcells (keyN i)) aggKy rfl (.tmp 8) rfl C4.out (take_all LK.out) (by rw [LK.out]; omega) (by first | rfl | go_simp) ?_; clear TK3; have TK4 := Lib.hid True.intro)
          | (have hx := TK4; clear hx; refine wpList_look1Out keyedK keyV_inj rfl (.tmp 25) (.tmp 26) rfl Tryd.underlying51 (z := .bool false) (fun _ => by kernel_rfl) M4.out (by first | rfl | go_simp) (keyN i) (key_ok _ (keyN_len i)) (by first | rfl | go_simp) (drawnM_no (by have := HI.out; omega)) ?_; clear TK4; have TK5 := Lib.hid True.intro)
          | (have hx := TK5; clear hx; refine wpList_loadCg (off := 0) (p := bcells (keyN i)) aggKy (by first | rfl | go_simp) (.tmp 8) rfl C4.out (take_all LK.out) (by rw [LK.out]; omega) (by first | rfl | go_simp) ?_; clear TK5; have TK6 := Lib.hid True.intro)
          | (have hx := TK6; clear hx; refine wpList_loadCg (off := 0) (p := bcells other) aggKy (by first | rfl | go_simp) (.tmp 3) rfl K4.out (take_all (by rw [bcells_length]; exact HK.out)) (by rw [bcells_length, HK.out]; omega) (by first | rfl | go_simp) ?_; clear TK6; have TK7 := Lib.hid True.intro)
          | (have hx := TK7; clear hx; refine wpList_cmpVg (.inl rfl) (by kernel_rfl) (by first | rfl | go_simp) (.tmp 34) (.tmp 35) rfl (by first | rfl | go_simp) (by first | rfl | go_simp) HCM.out ?_; have qo := K4.out.at_ (i := 0) HO0.out; clear TK7; have TK8 := Lib.hid True.intro)
          | (go_at_call 21; have hx := TK8; clear hx; refine (drawn_any _ _ _ _ _ _ S4.out).mono ?_; rintro e w5 ⟨rfl, rfl⟩; clear TK8 qo q0; have TK9 := Lib.hid True.intro)
          | (have hx := TK9; clear hx; refine wpList_loadC (off := 0) (p := bcells (keyN i)) aggKy rfl (.tmp 8) rfl C4.out (take_all LK.out) (by rw [LK.out]; omega) (by first | rfl | go_simp) ?_; clear TK9; have TKa := Lib.hid True.intro)
          | (have hx := TKa; clear hx; refine wpList_putM (vl := true) keyedK keyV_inj rfl (.tmp 50) (.tmp 51) _ rfl Tryd.underlying51 M4.out (by rw [drawnM_len]; have := HI.out; unfold maxLen; omega) (by first | rfl | go_simp) (keyN i) (hok := key_ok _ (keyN_len i)) (by first | rfl | go_simp) (by first | rfl | go_simp) ?_; intro w6 m6 t6; have g6 := t6.grown; rw [drawnM_next (by have := HI.out; omega)] at m6; have M6 := Lib.hid m6; have S6 := Lib.hid (S4.out.nil_far g6 HSM.out); have K6 := Lib.hid (K4.out.grown g6 HKM.out); have G6 := Lib.hid (none_new G4.out g6 HMW.out); clear m6 t6 g6 TKa))
        go_roundw
        case rel => exact ⟨i + 1, by go_num, by have := HQ.out; omega, S6.out, M6.out, K6.out, G6.out⟩
        case measure => simp [intOf]; omega
    · have hlti : ¬ (i : Int) < 1 + (q : Int) := by omega
      go_wp2
      go_ret
      exact ⟨rfl, below_of_none GR.out⟩
end Go.Proofs.YtaanhancjmigdaaDoor
