/- Single operations on blocks known by their cells; maps as single operations. Plain lemmas, no program. -/
import Derived.Test.YtejmbabeniekhaaDoorBrN
import Derived.Test.YtejmbabeniekhaaDoorInm
import Derived.Test.YtejmbabeniekhaaDoorMpt
import Derived.Test.YtejmbabeniekhaaDoorLit
import Derived.Test.YtejmbabeniekhaaDoorRpa
import Derived.Sort.KeysCollected
import Derived.StringKeys
import Derived.Test.YtejmbabeniekhaaDoorShf
import Derived.Shelf.Strconv.Clone
import Derived.Test.YtejmbabeniekhaaDoorShi
import Derived.Test.YtejmbabeniekhaaDoorRow
import Derived.Test.YtejmbabeniekhaaDoorSlr
import Derived.Test.YtejmbabeniekhaaDoorNumW
import Derived.Laws.BitsLemmas
namespace Go.Proofs.YtejmbabeniekhaaDoor
open Go.RowKit Go.Maps

theorem take_all {cs : List Value} {n : Nat} (h : cs.length = n) : (cs.drop 0).take n = cs := by rw [List.drop_zero]; exact List.take_of_length_le (by omega)
section
variable {P : Program} {w : World} {ops : Array Oper} {rest : List Oper} {o : Oper} {a : Act} {Q : Exit → Act → World → Prop} {ty t : TypeId} {n g off : Nat} {cs p : List Value}
theorem still_loadC {next : Act → Prop} (hT : AggT P ty n) (x : Operand) (ho : o.op = .load ty x) (h : CB w g t cs) (hp : (cs.drop off).take n = p) (hl : off + n ≤ cs.length) (hx : a.eval x = .pointer (some ⟨g, off, none⟩))
    (hk : next (a.put o.dst (.agg p.toArray))) : o.still P a w next := by
  have hr := run_loadC hT h hp hl
  unfold Oper.still execOp
  simp only [ho, hx, Instr.loadAt, Instr.sureAddr, Sem.run_bind, Sem.run_pure, Result.andThen_ok, hr]
  exact ⟨rfl, hk⟩
theorem wp_loadC {K : Act → World → Prop} (hT : AggT P ty n) (x : Operand) (ho : o.op = .load ty x) (h : CB w g t cs) (hp : (cs.drop off).take n = p) (hl : off + n ≤ cs.length) (hx : a.eval x = .pointer (some ⟨g, off, none⟩))
    (hk : K (a.put o.dst (.agg p.toArray)) w) : o.wp P a w K Q := by
  unfold Oper.wp execOp
  simp only [ho, hx, Instr.loadAt, Instr.sureAddr, Sem.run_bind, Sem.run_pure, Result.andThen_ok, run_loadC hT h hp hl]
  exact hk
theorem wp_allocC {K : Act → World → Prop} (hz : ∀ w, (zeroValue ty).run P w = .ok (.agg cs.toArray) w) (ho : o.op = .alloc ty)
    (hk : K (a.put o.dst (.pointer (some ⟨w.heap.size, 0, none⟩))) (w.alloc (.cells cs.toArray ty))) : o.wp P a w K Q := by
  unfold Oper.wp execOp
  simp only [ho, Sem.run_bind, run_allocC hz w, Result.andThen_ok, Sem.run_pure]
  exact hk
/-- 'v, ok := m[k]' as a single operation. -/
theorem wp_lookV {K : Act → World → Prop} {k e : TypeId} {α β : Type} [DecidableEq α] {kv : α → Value} {vv : β → Value} {b : Nat} {M : List (α × β)} (KK : Keyed P k) (hi : ∀ a b : α, kv a = kv b → a = b) (m x : Operand) (hop : o.op = Op.lookup t m x true)
    (ht : P.underlying t = some (.map k e)) {z : Value} (hz : ∀ w, (zeroValue e).run P w = .ok z w) (h : MT P k kv vv w b M) (hm : a.eval m = .map (some b)) (ky : α) (hok : OkK P k kv ky) (hx : a.eval x = kv ky) (v : Value) (B : Bool)
    (h1 : ∀ u, (ky, u) ∈ M → v = vv u ∧ B = true) (h2 : ky ∉ keysM M → v = z ∧ B = false)
    (hk : K (a.put o.dst (.tuple #[v, .bool B])) w) : o.wp P a w K Q := by
  obtain ⟨u, ps, hrun, hv⟩ := h.2.look_ok KK ht (hz w) (zd := .held z) (zp := []) rfl hok
  have hv1 : u = v ∧ decide (ky ∈ keysM M) = B := by
    by_cases hin : ky ∈ keysM M
    · obtain ⟨y, hy⟩ := mem_keysM.1 hin
      rw [at_datM KK hi h.1 hy] at hv
      unfold RV at hv
      simp at hv
      obtain ⟨e1, e2⟩ := h1 y hy
      exact ⟨hv.1.trans e1.symm, by rw [e2]; exact decide_eq_true hin⟩
    · rw [Maps.atKey_of_not_has (by rw [has_datM KK hi h.1 hok]; exact decide_eq_false hin)] at hv
      unfold RV at hv
      simp at hv
      obtain ⟨e1, e2⟩ := h2 hin
      exact ⟨hv.1.trans e1.symm, by rw [e2]; exact decide_eq_false hin⟩
  rw [has_datM KK hi h.1 hok, hv1.2, hv1.1] at hrun
  unfold Oper.wp
  simp [execOp, hop, hm, hx, hrun, Result.andThen]
  exact hk
end
section
variable {P : Program} {k : TypeId} {α β : Type} {kv : α → Value} {vv : β → Value} {M : List (α × β)} {w : World} {ops : Array Oper} {rest : List Oper} {o : Oper} {a : Act} {Q : Exit → Act → World → Prop} {b : Nat} {t e : TypeId}
/-- 'm[k]', the key is there. -/
theorem wpList_look1In (K : Keyed P k) (hi : ∀ a b : α, kv a = kv b → a = b) (hg : o.guard = none) (m x : Operand) (hop : o.op = Op.lookup t m x false) (ht : P.underlying t = some (.map k e)) {z : Value} (hz : ∀ w, (zeroValue e).run P w = .ok z w)
    (h : MT P k kv vv w b M) (hm : a.eval m = .map (some b)) (ky : α) (v : β) (hx : a.eval x = kv ky) (hin : (ky, v) ∈ M)
    (hK : wpList P ops Q rest (a.put o.dst (vv v)) w) : wpList P ops Q (o :: rest) a w := by
  have hok : OkK P k kv ky := h.1.2 ky (mem_keysM.2 ⟨v, hin⟩)
  refine wpList_plain hg fun K' hK' => ?_
  obtain ⟨u, ps, hrun, hv⟩ := h.2.lookup K ht (hz w) (zd := .held z) (zp := []) rfl hok
  rw [at_datM K hi h.1 hin] at hv
  unfold RV at hv
  simp at hv
  rw [hv.1] at hrun
  unfold Oper.wp
  simp [execOp, hop, hm, hx, hrun, Result.andThen]
  exact hK' _ _ hK
end
end Go.Proofs.YtejmbabeniekhaaDoor
namespace Go.Proofs.YtejmbabeniekhaaDoor
open Go.RowKit Go.Maps Go.WideMaps

/-- An entry: name, key, life, flags, out of use. -/
abbrev En := List UInt8 × List UInt8 × Int × Int × Bool
def enC (e : En) : List Value := [.string ⟨e.1.toArray⟩] ++ bcells e.2.1 ++ [.int .i64 e.2.2.1, .int .i64 e.2.2.2.1, .bool e.2.2.2.2]
def enV (e : En) : Value := .agg (enC e).toArray
def strV (l : List UInt8) : Value := .string ⟨l.toArray⟩
theorem strV_inj (a b : List UInt8) (h : strV a = strV b) : a = b := by
  have h1 := Value.string.inj h
  have h2 := congrArg (fun b : ByteArray => b.data.toList) h1
  simpa using h2
structure enOk (e : En) : Prop where
  ln : e.1.length ≤ 1000
  lk : e.2.1.length = 16
  li : -9223372036854775808 ≤ e.2.2.1 ∧ e.2.2.1 ≤ 9223372036854775807
  fl : -9223372036854775808 ≤ e.2.2.2.1 ∧ e.2.2.2.1 ≤ 9223372036854775807
theorem enC_length {e : En} (h : e.2.1.length = 16) : (enC e).length = 20 := by simp [enC, bcells_length, h]
theorem enC_one (e : En) : ∀ u ∈ enC e, u.oneCell' = true := by
  intro u hu
  rcases List.mem_append.1 hu with hu | hu
  · rcases List.mem_append.1 hu with hu | hu
    · rw [List.mem_singleton.1 hu]; rfl
    · exact bcells_one _ u hu
  · simp at hu
    rcases hu with rfl | rfl | rfl <;> rfl
theorem enC_name (e : En) : (enC e)[0]? = some (.string ⟨e.1.toArray⟩) := rfl
theorem enC_life {e : En} (h : e.2.1.length = 16) : (enC e)[17]? = some (.int .i64 e.2.2.1) := by
  unfold enC
  rw [List.getElem?_append_right (by simp [bcells_length, h])]
  simp [bcells_length, h]
theorem enC_flags {e : En} (h : e.2.1.length = 16) : (enC e)[18]? = some (.int .i64 e.2.2.2.1) := by
  unfold enC
  rw [List.getElem?_append_right (by simp [bcells_length, h])]
  simp [bcells_length, h]
theorem enC_off {e : En} (h : e.2.1.length = 16) : (enC e)[19]? = some (.bool e.2.2.2.2) := by
  unfold enC
  rw [List.getElem?_append_right (by simp [bcells_length, h])]
  simp [bcells_length, h]
def zeroEn : En := ([], zeros 16, 0, 0, false)
theorem zeroE_run (w : World) : (zeroValue 51).run Tryd.prog w = .ok (.agg (enC zeroEn).toArray) w := by kernel_rfl
theorem aggE : AggT Tryd.prog 51 20 := ⟨fun _ => by kernel_rfl, by kernel_rfl⟩
theorem keyedS : Keyed Tryd.prog 9 := string_keyed Tryd.underlying9
theorem okS (l : List UInt8) (h : l.length ≤ 1000000) : OkK Tryd.prog 9 strV l :=
  OkK.of (keyOf_string_mk Tryd.underlying9 (by show l.toArray.size ≤ maxLen; unfold maxLen; rw [List.size_toArray]; omega))

/-! What is asked. -/
def rightE (e : En) : Bool := parses e.1 && (decide (1 ≤ e.2.2.1) && decide (e.2.2.1 ≤ 1099511627776) && (decide (e.2.2.2.1 = 0) || decide (e.2.2.2.1 = 1)))
abbrev Em := List (List UInt8 × En)
def putE (M : Em) (e : En) : Em × Int :=
  if rightE e = false then (M, 1) else if e.1 ∉ keysM M ∧ 16 ≤ M.length then (M, 2) else (withoutM M e.1 ++ [(e.1, e)], 0)
/-- Each entry stands under its name, and is fine. -/
def EmOk (M : Em) : Prop := ∀ p ∈ M, p.1 = p.2.1 ∧ enOk p.2
theorem without_len (M : Em) (n : List UInt8) : (withoutM M n).length ≤ M.length := List.length_filter_le _ _
theorem without_len_in : ∀ (M : Em) (n : List UInt8), (keysM M).Nodup → n ∈ keysM M → (withoutM M n).length + 1 = M.length
  | [], n, _, h => by simp [keysM] at h
  | p :: M, n, hd, h => by
    unfold keysM at hd h
    rw [List.map_cons, List.nodup_cons] at hd
    rw [List.map_cons, List.mem_cons] at h
    unfold withoutM
    by_cases e : p.1 = n
    · rw [List.filter_cons, if_neg (by simp [e])]
      have : M.filter (fun q => decide (q.1 ≠ n)) = M := List.filter_eq_self.2 fun q hq => by
        refine decide_eq_true fun e2 => hd.1 ?_
        rw [e, ← e2]
        exact List.mem_map.2 ⟨q, hq, rfl⟩
      rw [this, List.length_cons]
    · rw [List.filter_cons, if_pos (by simp [e]), List.length_cons, List.length_cons]
      have ih := without_len_in M n hd.2 (h.resolve_left (fun h2 => e h2.symm))
      unfold withoutM at ih
      omega
theorem without_out (M : Em) (n : List UInt8) (h : n ∉ keysM M) : withoutM M n = M := by
  unfold withoutM
  refine List.filter_eq_self.2 fun q hq => decide_eq_true fun e => h ?_
  rw [← e]
  exact List.mem_map.2 ⟨q, hq, rfl⟩
theorem EmOk.sub {M : Em} (h : EmOk M) (n : List UInt8) : EmOk (withoutM M n) := fun p hp => h p (List.mem_filter.1 hp).1
theorem EmOk.put {M : Em} (h : EmOk M) {e : En} (he : enOk e) : EmOk (putE M e).1 := by
  unfold putE
  split
  · exact h
  · split
    · exact h
    · intro p hp
      rcases List.mem_append.1 hp with hp | hp
      · exact h.sub e.1 p hp
      · rw [List.mem_singleton.1 hp]; exact ⟨rfl, he⟩
theorem key_mem {M : Em} (hd : (keysM M).Nodup) {n : List UInt8} {u v : En} (h1 : (n, u) ∈ M) (h2 : (n, v) ∈ M) : u = v := by
  have hp : M.Pairwise (fun p q => p.1 ≠ q.1) := List.pairwise_map.1 hd
  induction M with
  | nil => cases h1
  | cons p M ih =>
    obtain ⟨h3, h4⟩ := List.pairwise_cons.1 hp
    unfold keysM at hd
    rw [List.map_cons, List.nodup_cons] at hd
    rcases List.mem_cons.1 h1 with e1 | h1
    · rcases List.mem_cons.1 h2 with e2 | h2
      · rw [← e2] at e1; injection e1
      · exact absurd (by rw [← e1]) (h3 _ h2)
    · rcases List.mem_cons.1 h2 with e2 | h2
      · exact absurd (by rw [← e2]) (h3 _ h1)
      · exact ih hd.2 h1 h2 h4
end Go.Proofs.YtejmbabeniekhaaDoor
namespace Go.Proofs.YtejmbabeniekhaaDoor
open Go.RowKit Go.Maps Go.WideMaps

theorem szS : (Tryd.prog.info? 9).map (·.size) = some 1 := by kernel_rfl
theorem en_sz {e : En} (h : enOk e) : (⟨e.1.toArray⟩ : ByteArray).size ≤ 1000 := by have := h.ln; show e.1.toArray.size ≤ 1000; rw [List.size_toArray]; exact this

set_option maxRecDepth 10000 in
set_option maxHeartbeats 1000000 in
theorem apart_any (e : En) (he : enOk e) (w : World) : Calls Tryd.prog 57 #[.agg (enC e).toArray] w fun r w' => r = .returned (.agg (enC e).toArray) ∧ w.grownBy w' none := by
  have HOE := Lib.hid he
  have HLE := Lib.hid (enC_length he.lk)
  have HLZ := Lib.hid (enC_length (e := zeroEn) (zeros_length 16))
  have HB0 := Lib.hid ((CB.new w 51 (enC e)).alloc (.cells (enC zeroEn).toArray 51))
  have HB1 := Lib.hid (CB.new1 w (.cells (enC e).toArray 51) 51 (enC zeroEn))
  have HG := Lib.hid (grown_trans' (grown_alloc w (.cells (enC e).toArray 51) none) (grown_alloc _ (.cells (enC zeroEn).toArray 51) none))
  have q0 := HB0.out.at_ (enC_name e)
  have HSZ := Lib.hid (show (⟨e.1.toArray⟩ : ByteArray).size ≤ 1000000 from Nat.le_trans (en_sz he) (by omega))
  have HWN := Lib.hid (Nat.le_refl w.heap.size)
  clear he
  go_enter Tryd.func57, Tryd.ntmps57
  go_wp2_with (first
    | refine wpList_allocC zeroE_run rfl rfl ?_
    | (go_at_call 69; refine (sclone_any _ _ HSZ.out).mono ?_; rintro r w1 ⟨rfl, hb1⟩; have G1' := Lib.hid (none_of_below hb1 (Nat.le_refl _)); have B0 := Lib.hid (HB0.out.kept G1'.out); have B1 := Lib.hid (HB1.out.kept G1'.out); have G1 := Lib.hid (grown_trans' HG.out G1'.out); clear hb1 q0)
    | (refine wpList_storeC (off := 0) (p := [.string ⟨e.1.toArray⟩]) szS rfl (.tmp 6) (.tmp 5) rfl (.string ⟨e.1.toArray⟩) rfl (fun x hx => by rw [List.mem_singleton.1 hx]; rfl) B0.out rfl (by rw [HLE.out]; omega) (by first | rfl | go_simp) (by first | rfl | go_simp) ?_; intro w2 h2 g2; have B2 := Lib.hid (show CB w2 w.heap.size 51 (enC e) from h2); have C2 := Lib.hid (B1.out.grown g2 (by simp)); have G2 := Lib.hid (none_new G1.out g2 HWN.out); clear h2 g2)
    | (refine wpList_loadC (off := 0) (p := enC e) aggE rfl (.tmp 1) rfl B2.out (take_all HLE.out) (by rw [HLE.out]; omega) (by first | rfl | go_simp) ?_)
    | (refine wpList_storeC (off := 0) (p := enC e) aggE.hi rfl (.tmp 2) (.tmp 7) rfl (.agg (enC e).toArray) rfl (enC_one e) C2.out HLE.out (by rw [HLZ.out]; omega) (by first | rfl | go_simp) (by first | rfl | go_simp) ?_; intro w3 h3 g3; rw [over_all _ _ (Nat.le_of_eq (by rw [HLE.out, HLZ.out]))] at h3; have C3 := Lib.hid h3; have G3 := Lib.hid (none_new G2.out g3 (by simp)); clear h3 g3))
  refine bodyPost_ret (results_C1 rfl _ aggE C3.out HLE.out rfl) rfl ⟨rfl, G3.out⟩

set_option maxRecDepth 10000 in
set_option maxHeartbeats 2000000 in
theorem isRight_any (e : En) (he : enOk e) (w : World) (hM : ML w) : Calls Tryd.prog 56 #[.agg (enC e).toArray] w fun r w' => r = .returned (.bool (rightE e)) ∧ w.grownBy w' none := by
  have HL := Lib.hid (show e.1.length ≤ 1000000 from Nat.le_trans he.ln (by omega))
  have HM := Lib.hid (show ML (w.alloc (.cells (enC e).toArray 51)) from hM.below ((Below.refl _ _).alloc (Nat.le_refl _) _))
  have HB0 := Lib.hid (CB.new w 51 (enC e))
  have HG := Lib.hid (grown_alloc w (.cells (enC e).toArray 51) none)
  obtain ⟨l, hl⟩ : ∃ l, l = e.2.2.1 := ⟨_, rfl⟩
  obtain ⟨f, hf⟩ : ∃ f, f = e.2.2.2.1 := ⟨_, rfl⟩
  have HLI := Lib.hid (show (enC e)[17]? = some (.int .i64 l) by rw [hl]; exact enC_life he.lk)
  have HFL := Lib.hid (show (enC e)[18]? = some (.int .i64 f) by rw [hf]; exact enC_flags he.lk)
  have q0 := HB0.out.at_ (enC_name e)
  obtain ⟨r, hr⟩ : ∃ r, r = rightE e := ⟨_, rfl⟩
  rw [← hr]
  have HR := Lib.hid (show r = (parses e.1 && (decide (1 ≤ l) && decide (l ≤ 1099511627776) && (decide (f = 0) || decide (f = 1)))) by rw [hr, hl, hf]; rfl)
  clear he hM hr hl hf
  cases hp : parses e.1 with
  | false =>
    have HP := Lib.hid hp
    have HRR := Lib.hid (show r = false by rw [HR.out, hp, Bool.false_and])
    clear hp
    go_enter Tryd.func56, Tryd.ntmps56
    go_wp2_with (first
        | (go_at_call 77; refine (parse_any _ e.1 rfl _ HM.out HL.out).mono ?_; intro r w1 h1; rw [Parsed, if_neg (by rw [HP.out]; simp)] at h1; obtain ⟨rfl, hb⟩ := h1; have G1 := Lib.hid (none_of_below hb (Nat.le_refl _)); have TK1 := Lib.hid True.intro; clear hb)
        | (have hx := TK1; clear hx TK1; refine wpList_allocC zeroN_run rfl rfl ?_; have TK2 := Lib.hid True.intro)
        | (have hx := TK2; clear hx TK2; refine wpList_storeC (off := 0) (p := [.slice none 0 0, .string ⟨#[]⟩]) aggN.hi rfl (.tmp 3) (.tmp 9) rfl _ rfl (nm_one _ _ _ _) (CB.new w1 138 zeroN) rfl (Nat.le_refl _) (by first | rfl | go_simp) rfl ?_; intro w4 h4 g4; have G4' := Lib.hid (none_new (grown_trans' G1.out (grown_alloc w1 _ none)) g4 G1.out.size); have B4 := Lib.hid (HB0.out.kept G4'.out); have G4 := Lib.hid (grown_trans' HG.out G4'.out); have p1 := B4.out.at_ HLI.out; have p2 := B4.out.at_ HFL.out; clear h4 g4 q0))
    go_ret
    rw [HRR.out]
    exact ⟨rfl, G4.out⟩
  | true =>
    have HP := Lib.hid hp
    clear hp
    go_enter Tryd.func56, Tryd.ntmps56
    go_wp2_with (first
        | (go_at_call 77; refine (parse_any _ e.1 rfl _ HM.out HL.out).mono ?_; intro r w1 h1; rw [Parsed, if_pos HP.out] at h1; obtain ⟨g, n, ls, nr, rfl, -, -, -, -, -, -, hb⟩ := h1; have G1 := Lib.hid (none_of_below hb (Nat.le_refl _)); have TK1 := Lib.hid True.intro; clear hb)
        | (have hx := TK1; clear hx TK1; refine wpList_allocC zeroN_run rfl rfl ?_; have TK2 := Lib.hid True.intro)
        | (have hx := TK2; clear hx TK2; refine wpList_storeC (off := 0) (p := [.slice (some ⟨g, 0, none⟩) n n, .string nr]) aggN.hi rfl (.tmp 3) (.tmp 9) rfl _ rfl (nm_one _ _ _ _) (CB.new w1 138 zeroN) rfl (Nat.le_refl _) (by first | rfl | go_simp) rfl ?_; intro w4 h4 g4; have G4' := Lib.hid (none_new (grown_trans' G1.out (grown_alloc w1 _ none)) g4 G1.out.size); have B4 := Lib.hid (HB0.out.kept G4'.out); have G4 := Lib.hid (grown_trans' HG.out G4'.out); have p1 := B4.out.at_ HLI.out; have p2 := B4.out.at_ HFL.out; clear h4 g4 q0))
    all_goals
      go_ret
      refine ⟨?_, G4.out⟩
      rw [HR.out, HP.out]
      refine congrArg (fun b => Ending.returned (Value.bool b)) ?_
      first | (simp [*]; done) | (simp [*]; omega) | (simp [*]; rfl) | (rw [Bool.eq_iff_iff]; simp [*])

/-- A Base lies in block c, its map in block b. -/
def BS (w : World) (c b : Nat) (M : Em) : Prop :=
  CB w c 110 [.map (some b)] ∧ MT Tryd.prog 9 strV enV w b M ∧ c ≠ b ∧ EmOk M
theorem BS.none {w w' : World} {c b : Nat} {M : Em} (h : BS w c b M) (hg : w.grownBy w' none) : BS w' c b M := ⟨h.1.kept hg, h.2.1.none hg, h.2.2⟩
theorem BS.far {w w' : World} {c b g : Nat} {M : Em} (h : BS w c b M) (hg : w.grownBy w' (some g)) (h1 : g ≠ c) (h2 : g ≠ b) : BS w' c b M :=
  ⟨h.1.grown hg (fun e => h1 e.symm), h.2.1.kept hg (fun e => h2 (by injection e with e; exact e.symm)), h.2.2⟩
theorem BS.lt {w : World} {c b : Nat} {M : Em} (h : BS w c b M) : c < w.heap.size ∧ b < w.heap.size := ⟨h.1.lt, h.2.1.lt⟩

theorem bnew_any (w : World) : Calls Tryd.prog 21 #[] w fun e w' => e = .returned (.pointer (some ⟨w.heap.size + 1, 0, none⟩)) ∧ BS w' (w.heap.size + 1) w.heap.size [] ∧ w.grownBy w' none := by
  have hmm := @run_makeMap Tryd.prog
  have HC := Lib.hid (CB.new1 w (.map #[] 0) 110 [.map (some w.heap.size)])
  have HM := Lib.hid ((MT.made (P := Tryd.prog) (k := 9) (kv := strV) (vv := enV) w).alloc (.cells #[.map (some w.heap.size)] 110))
  have HG := Lib.hid (grown_trans' (grown_alloc w (.map #[] 0) none) (grown_alloc (w.alloc (.map #[] 0)) (.cells #[.map (some w.heap.size)] 110) none))
  go_enter Tryd.func21, Tryd.ntmps21
  go_wp2
  go_ret
  exact ⟨rfl, ⟨HC.out, HM.out, by omega, fun a h => by cases h⟩, HG.out⟩

set_option maxRecDepth 10000 in
set_option maxHeartbeats 1000000 in
theorem drop_any (n : List UInt8) (hn : n.length ≤ 1000) (w : World) (c b : Nat) (M : Em) (h : BS w c b M) (B : Bool) (hB : B = true ↔ n ∈ keysM M) :
    Calls Tryd.prog 22 #[.pointer (some ⟨c, 0, none⟩), strV n] w fun e w' => e = .returned (.bool B) ∧ BS w' c b (withoutM M n) ∧ w.grownBy w' (some b) := by
  have HOK := Lib.hid (okS n (by omega))
  have q0 : w.cell? ⟨c, 0, none⟩ = some (.map (some b)) := h.1.at_ rfl
  have HBS := Lib.hid h
  have HLZ := Lib.hid (enC_length (e := zeroEn) (zeros_length 16))
  by_cases hin : n ∈ keysM M
  · obtain ⟨v, hv⟩ := mem_keysM.1 hin
    obtain rfl : B = true := hB.2 hin
    have HV := Lib.hid hv
    have HLV := Lib.hid (enC_length (h.2.2.2 _ hv).2.lk)
    clear h hn hin hv hB
    go_enter Tryd.func22, Tryd.ntmps22
    go_wp2_with (first
      | refine wpList_lookIn keyedS strV_inj rfl _ _ rfl Tryd.underlying108 zeroE_run HBS.out.2.1 rfl n v rfl HV.out ?_
      | (refine wpList_allocC zeroE_run rfl rfl ?_; have HN1 := Lib.hid (CB.new w 51 (enC zeroEn)); have HG1 := Lib.hid (grown_alloc w (.cells (enC zeroEn).toArray 51) none))
      | (refine wpList_storeC (off := 0) (p := enC v) aggE.hi rfl (.tmp 5) (.tmp 14) rfl (.agg (enC v).toArray) rfl (enC_one v) HN1.out HLV.out (by rw [HLZ.out]; omega) (by first | rfl | go_simp) (by first | rfl | go_simp) ?_; intro w2 h2 g2; have G2 := Lib.hid (none_new HG1.out g2 (Nat.le_refl _)); have S2 := Lib.hid (HBS.out.none G2.out); have q1 := S2.out.1.at_ (i := 0) rfl; clear h2 g2 q0)
      | (refine wpList_delM keyedS strV_inj rfl _ _ rfl Tryd.underlying108 S2.out.2.1 rfl n HOK.out rfl ?_; intro w3 hM3 hT3))
    go_ret
    exact ⟨rfl, ⟨S2.out.1.grown hT3.grown S2.out.2.2.1, hM3, S2.out.2.2.1, S2.out.2.2.2.sub n⟩, grown_trans' (grown_some G2.out b) hT3.grown⟩
  · obtain rfl : B = false := by
      cases B with
      | false => rfl
      | true => exact absurd (hB.1 rfl) hin
    have HIN := Lib.hid hin
    clear h hn hin hB
    go_enter Tryd.func22, Tryd.ntmps22
    go_wp2_with (first
      | refine wpList_lookOut keyedS strV_inj rfl _ _ rfl Tryd.underlying108 zeroE_run HBS.out.2.1 rfl n HOK.out rfl HIN.out ?_
      | (refine wpList_allocC zeroE_run rfl rfl ?_; have HN1 := Lib.hid (CB.new w 51 (enC zeroEn)); have HG1 := Lib.hid (grown_alloc w (.cells (enC zeroEn).toArray 51) none))
      | (refine wpList_storeC (off := 0) (p := enC zeroEn) aggE.hi rfl (.tmp 5) (.tmp 14) rfl (.agg (enC zeroEn).toArray) rfl (enC_one zeroEn) HN1.out HLZ.out (by rw [HLZ.out]; omega) (by first | rfl | go_simp) (by first | rfl | go_simp) ?_; intro w2 h2 g2; have G2 := Lib.hid (none_new HG1.out g2 (Nat.le_refl _)); have S2 := Lib.hid (HBS.out.none G2.out); have q1 := S2.out.1.at_ (i := 0) rfl; clear h2 g2 q0)
      | (refine wpList_delM keyedS strV_inj rfl _ _ rfl Tryd.underlying108 S2.out.2.1 rfl n HOK.out rfl ?_; intro w3 hM3 hT3))
    go_ret
    exact ⟨rfl, ⟨S2.out.1.grown hT3.grown S2.out.2.2.1, hM3, S2.out.2.2.1, S2.out.2.2.2.sub n⟩, grown_trans' (grown_some G2.out b) hT3.grown⟩

end Go.Proofs.YtejmbabeniekhaaDoor
namespace Go.Proofs.YtejmbabeniekhaaDoor
open Go.RowKit Go.Maps Go.WideMaps

/-- What Get answers. -/
def getE (M : Em) (n : List UInt8) (x : En) (B : Bool) : Prop := (∀ v, (n, v) ∈ M → v.2.2.2.2 = false → x = v ∧ B = true) ∧ (∀ v, (n, v) ∈ M → v.2.2.2.2 = true → x = zeroEn ∧ B = false) ∧ (n ∉ keysM M → x = zeroEn ∧ B = false)
set_option maxRecDepth 10000 in
set_option maxHeartbeats 2000000 in
theorem get_any (n : List UInt8) (hn : n.length ≤ 1000) (w : World) (c b : Nat) (M : Em) (h : BS w c b M) (x : En) (B : Bool) (hx : getE M n x B) :
    Calls Tryd.prog 26 #[.pointer (some ⟨c, 0, none⟩), strV n] w fun e w' => e = .returned (.tuple #[enV x, .bool B]) ∧ w.grownBy w' none := by
  have HOK := Lib.hid (okS n (by omega))
  have HBS := Lib.hid h
  have HLZ := Lib.hid (enC_length (e := zeroEn) (zeros_length 16))
  have TK0 := Lib.hid True.intro
  by_cases hin : n ∈ keysM M
  · obtain ⟨v, hv⟩ := mem_keysM.1 hin
    have HV := Lib.hid hv
    have HOV := Lib.hid (h.2.2.2 _ hv).2
    have HLV := Lib.hid (enC_length (h.2.2.2 _ hv).2.lk)
    have HOF := Lib.hid (enC_off (h.2.2.2 _ hv).2.lk)
    cases ho : v.2.2.2.2 with
    | true =>
      obtain ⟨rfl, rfl⟩ := hx.2.1 v hv ho
      have HO := Lib.hid ho
      clear h hn hin hv hx ho
      go_enter Tryd.func26, Tryd.ntmps26
      go_wp2_with (first
      | (refine wpList_allocC zeroE_run rfl rfl ?_; have hx := TK0; clear hx TK0; have TK1 := Lib.hid True.intro; have HZ := Lib.hid (CB.new w 51 (enC zeroEn)); have HG0 := Lib.hid (grown_alloc w (.cells (enC zeroEn).toArray 51) none); have S0 := Lib.hid (HBS.out.none HG0.out); have q0 := S0.out.1.at_ (i := 0) rfl)
      | refine wpList_lookIn keyedS strV_inj rfl _ _ rfl Tryd.underlying108 zeroE_run S0.out.2.1 rfl n v rfl HV.out ?_
      | (refine wpList_allocC zeroE_run rfl rfl ?_; have hx := TK1; clear hx TK1; have HN1 := Lib.hid (CB.new1 w (.cells (enC zeroEn).toArray 51) 51 (enC zeroEn)); have HZ1 := Lib.hid (HZ.out.alloc (.cells (enC zeroEn).toArray 51)); have HG1 := Lib.hid (grown_trans' HG0.out (grown_alloc _ (.cells (enC zeroEn).toArray 51) none)); clear q0)
      | (refine wpList_storeC (off := 0) (p := enC v) aggE.hi rfl (.tmp 6) (.tmp 15) rfl (.agg (enC v).toArray) rfl (enC_one v) HN1.out HLV.out (by rw [HLZ.out]; omega) (by first | rfl | go_simp) (by first | rfl | go_simp) ?_; intro w2 h2 g2; rw [over_all _ _ (by first | exact Nat.le_refl _ | exact Nat.le_of_eq (by rw [HLZ.out, HLV.out]))] at h2; have B2 := Lib.hid h2; have Z2 := Lib.hid (HZ1.out.grown g2 (by simp)); have G2 := Lib.hid (none_new HG1.out g2 (by simp)); have q4 := B2.out.at_ HOF.out; rw [HO.out] at q4; clear h2 g2)
      | (refine wpList_storeC (off := 0) (p := enC zeroEn) aggE.hi rfl (.tmp 4) (.tmp 23) rfl (.agg (enC zeroEn).toArray) rfl (enC_one zeroEn) Z2.out HLZ.out (by rw [HLZ.out]; omega) (by first | rfl | go_simp) (by first | rfl | go_simp) ?_; intro w3 h3 g3; rw [over_all _ _ (Nat.le_refl _)] at h3; have C3 := Lib.hid h3; have G3 := Lib.hid (none_new G2.out g3 (Nat.le_refl _)); clear h3 g3))
      refine bodyPost_ret (results_C2 rfl _ aggE C3.out HLZ.out rfl rfl) rfl ⟨rfl, G3.out⟩
    | false =>
      obtain ⟨rfl, rfl⟩ := hx.1 v hv ho
      have HO := Lib.hid ho
      clear h hn hin hv hx ho
      go_enter Tryd.func26, Tryd.ntmps26
      go_wp2_with (first
      | (refine wpList_allocC zeroE_run rfl rfl ?_; have hx := TK0; clear hx TK0; have TK1 := Lib.hid True.intro; have HZ := Lib.hid (CB.new w 51 (enC zeroEn)); have HG0 := Lib.hid (grown_alloc w (.cells (enC zeroEn).toArray 51) none); have S0 := Lib.hid (HBS.out.none HG0.out); have q0 := S0.out.1.at_ (i := 0) rfl)
      | refine wpList_lookIn keyedS strV_inj rfl _ _ rfl Tryd.underlying108 zeroE_run S0.out.2.1 rfl n x rfl HV.out ?_
      | (refine wpList_allocC zeroE_run rfl rfl ?_; have hx := TK1; clear hx TK1; have HN1 := Lib.hid (CB.new1 w (.cells (enC zeroEn).toArray 51) 51 (enC zeroEn)); have HZ1 := Lib.hid (HZ.out.alloc (.cells (enC zeroEn).toArray 51)); have HG1 := Lib.hid (grown_trans' HG0.out (grown_alloc _ (.cells (enC zeroEn).toArray 51) none)); clear q0)
      | (refine wpList_storeC (off := 0) (p := enC x) aggE.hi rfl (.tmp 6) (.tmp 15) rfl (.agg (enC x).toArray) rfl (enC_one x) HN1.out HLV.out (by rw [HLZ.out]; omega) (by first | rfl | go_simp) (by first | rfl | go_simp) ?_; intro w2 h2 g2; rw [over_all _ _ (by first | exact Nat.le_refl _ | exact Nat.le_of_eq (by rw [HLZ.out, HLV.out]))] at h2; have B2 := Lib.hid h2; have Z2 := Lib.hid (HZ1.out.grown g2 (by simp)); have G2 := Lib.hid (none_new HG1.out g2 (by simp)); have q4 := B2.out.at_ HOF.out; rw [HO.out] at q4; clear h2 g2)
      | (refine wpList_loadC (off := 0) (p := enC x) aggE rfl (.tmp 6) rfl B2.out (take_all HLV.out) (by rw [HLV.out]; omega) (by first | rfl | go_simp) ?_)
      | (go_at_call 57; refine (apart_any x HOV.out _).mono ?_; rintro r w4 ⟨rfl, g4⟩; have Z4 := Lib.hid (Z2.out.kept g4); have G4 := Lib.hid (grown_trans' G2.out g4); clear g4 q4)
      | (refine wpList_storeC (off := 0) (p := enC x) aggE.hi rfl (.tmp 4) (.tmp 25) rfl (.agg (enC x).toArray) rfl (enC_one x) Z4.out HLV.out (by rw [HLZ.out]; omega) (by first | rfl | go_simp) (by first | rfl | go_simp) ?_; intro w3 h3 g3; rw [over_all _ _ (by first | exact Nat.le_refl _ | exact Nat.le_of_eq (by rw [HLZ.out, HLV.out]))] at h3; have C3 := Lib.hid h3; have G3 := Lib.hid (none_new G4.out g3 (Nat.le_refl _)); clear h3 g3))
      refine bodyPost_ret (results_C2 rfl _ aggE C3.out HLV.out rfl rfl) rfl ⟨rfl, G3.out⟩
  · obtain ⟨rfl, rfl⟩ := hx.2.2 hin
    have HIN := Lib.hid hin
    clear h hn hin hx
    go_enter Tryd.func26, Tryd.ntmps26
    go_wp2_with (first
      | (refine wpList_allocC zeroE_run rfl rfl ?_; have hx := TK0; clear hx TK0; have TK1 := Lib.hid True.intro; have HZ := Lib.hid (CB.new w 51 (enC zeroEn)); have HG0 := Lib.hid (grown_alloc w (.cells (enC zeroEn).toArray 51) none); have S0 := Lib.hid (HBS.out.none HG0.out); have q0 := S0.out.1.at_ (i := 0) rfl)
      | refine wpList_lookOut keyedS strV_inj rfl _ _ rfl Tryd.underlying108 zeroE_run S0.out.2.1 rfl n HOK.out rfl HIN.out ?_
      | (refine wpList_allocC zeroE_run rfl rfl ?_; have hx := TK1; clear hx TK1; have HN1 := Lib.hid (CB.new1 w (.cells (enC zeroEn).toArray 51) 51 (enC zeroEn)); have HZ1 := Lib.hid (HZ.out.alloc (.cells (enC zeroEn).toArray 51)); have HG1 := Lib.hid (grown_trans' HG0.out (grown_alloc _ (.cells (enC zeroEn).toArray 51) none)); clear q0)
      | (refine wpList_storeC (off := 0) (p := enC zeroEn) aggE.hi rfl (.tmp 6) (.tmp 15) rfl (.agg (enC zeroEn).toArray) rfl (enC_one zeroEn) HN1.out HLZ.out (by rw [HLZ.out]; omega) (by first | rfl | go_simp) (by first | rfl | go_simp) ?_; intro w2 h2 g2; rw [over_all _ _ (by first | exact Nat.le_refl _ | exact Nat.le_of_eq (by rw [HLZ.out, HLZ.out]))] at h2; have B2 := Lib.hid h2; have Z2 := Lib.hid (HZ1.out.grown g2 (by simp)); have G2 := Lib.hid (none_new HG1.out g2 (by simp)); clear h2 g2)
      | (refine wpList_storeC (off := 0) (p := enC zeroEn) aggE.hi rfl (.tmp 4) (.tmp 23) rfl (.agg (enC zeroEn).toArray) rfl (enC_one zeroEn) Z2.out HLZ.out (by rw [HLZ.out]; omega) (by first | rfl | go_simp) (by first | rfl | go_simp) ?_; intro w3 h3 g3; rw [over_all _ _ (Nat.le_refl _)] at h3; have C3 := Lib.hid h3; have G3 := Lib.hid (none_new G2.out g3 (Nat.le_refl _)); clear h3 g3))
    refine bodyPost_ret (results_C2 rfl _ aggE C3.out HLZ.out rfl rfl) rfl ⟨rfl, G3.out⟩
end Go.Proofs.YtejmbabeniekhaaDoor
namespace Go.Proofs.YtejmbabeniekhaaDoor
open Go.RowKit Go.Maps Go.WideMaps

/-- New memory is made, or one block of the new memory is written, which stays one of n cells. -/
def WrN (B0 : Nat) (t : TypeId) (n : Nat) (x y : World) : Prop := x.grownBy y none ∨ ∃ g, B0 ≤ g ∧ x.grownBy y (some g) ∧ ∃ cs, CB y g t cs ∧ cs.length = n
theorem WrN.refl {B0 n : Nat} {t : TypeId} (x : World) : WrN B0 t n x x := .inl (World.grownBy.refl x _)
theorem WrN.block {B0 n g : Nat} {t : TypeId} {x y : World} {cs : List Value} (h : WrN B0 t n x y) (hc : CB x g t cs) (hl : cs.length = n) : ∃ cs, CB y g t cs ∧ cs.length = n := by
  rcases h with h | ⟨g', _, h2, cs', h3, h4⟩
  · exact ⟨cs, hc.kept h, hl⟩
  · by_cases e : g = g'
    · subst e; exact ⟨cs', h3, h4⟩
    · exact ⟨cs, hc.grown h2 e, hl⟩
theorem WrN.step {B0 n c b g0 : Nat} {t : TypeId} {x y w : World} {M : Em} {e : En} (h : WrN B0 t n x y) (hG : BS x c b M ∧ CB x g0 51 (enC e) ∧ w.grownBy x none ∧ B0 ≤ x.heap.size) (hlt : c < B0 ∧ b < B0 ∧ g0 < B0) (hw : w.heap.size ≤ B0) :
    BS y c b M ∧ CB y g0 51 (enC e) ∧ w.grownBy y none ∧ B0 ≤ y.heap.size := by
  obtain ⟨h1, h2, h3, h4⟩ := hG
  rcases h with h | ⟨g, hg, h, -⟩
  · exact ⟨h1.none h, h2.kept h, grown_trans' h3 h, Nat.le_trans h4 h.size⟩
  · exact ⟨h1.far h (by omega) (by omega), h2.grown h (by omega), none_new h3 h (by omega), Nat.le_trans h4 h.size⟩
theorem over_len (cs p : List Value) (h : p.length ≤ cs.length) : (over cs 0 p).length = cs.length := by
  simp [over]; omega
/-- A region by its operations' duties, whatever may become of the world in them. -/
theorem region_wr {P : Program} {ops : Array Oper} {Q : Exit → Act → World → Prop} {a0 : Act} {id : Nat} {w : World} (n : Nat) (ds : List (Option Tmp)) (T : World → World → Prop) (G : World → Prop) (F : Nat → Value → World → Prop) (hm : P.follows .mixedOrders = true) (hok : Inv.okB ops a0.tmps.size = true) (hn : ops.size = n) (hds : (List.range n).map (Inv.dstOf ops) = ds)
    (hG : ∀ x y, T x y → G x → G y) (hF : ∀ j v x y, T x y → G x → F j v x → F j v y) (h0 : G w.drew)
    (step : Inv.Duties P ops Q a0 T G F n)
    (fin : ∀ vs w', G w' → (∀ i, i < n → F i (vs i) w') → Q .normal (Inv.putAll vs ds 0 a0) w') : (Code.region id ops true).wp P Q a0 w := by
  subst hn
  refine Inv.region_inv T G F hm hok hG hF h0 (Inv.duties_all step) (fun vs w' hg hf => ?_)
  rw [Inv.canon_putAll, hds]
  exact fin vs w' hg hf
/-- 'len(m)', its guard met. -/
theorem wpList_lenMg {P : Program} {k : TypeId} {α β : Type} {kv : α → Value} {vv : β → Value} {M : List (α × β)} {w : World} {ops : Array Oper} {rest : List Oper} {o : Oper} {a : Act} {Q : Exit → Act → World → Prop} {b : Nat} {t e : TypeId}
    (hw : Region.wanted o (yielded ops a.tmps) = true) (m : Operand) (hop : o.op = Op.call { callee := Callee.builtin Builtin.len, args := #[m], argTypes := #[t] }) (ht : P.underlying t = some (.map k e))
    (h : MT P k kv vv w b M) (hm : a.eval m = .map (some b)) (hK : wpList P ops Q rest (a.put o.dst (.int .i64 M.length)) w) : wpList P ops Q (o :: rest) a w := by
  refine wpList_step fun K' hK' => ?_
  rw [if_pos hw]
  unfold Oper.wp
  have := h.2.len ht o.type
  rw [size_datM] at this
  simp [execOp, hop, resolve, invoke, builtin, hm, this, Result.andThen]
  exact hK' _ _ hK
theorem EmOk.put1 {M : Em} (h : EmOk M) {e : En} (he : enOk e) : EmOk (withoutM M e.1 ++ [(e.1, e)]) := by
  intro p hp
  rcases List.mem_append.1 hp with hp | hp
  · exact h.sub e.1 p hp
  · rw [List.mem_singleton.1 hp]; exact ⟨rfl, he⟩

def BscF (e V : En) (c b g0 B0 : Nat) (B : Bool) : Nat → Value → World → Prop
  | 0, v, _ => v = .pointer (some ⟨c, 0, none⟩)
  | 1, v, _ => v = .pointer (some ⟨c, 0, none⟩)
  | 2, v, _ => v = .pointer (some ⟨c, 0, none⟩)
  | 3, v, _ => v = .map (some b)
  | 4, v, _ => v = .pointer (some ⟨g0, 0, none⟩)
  | 5, v, _ => v = .string ⟨e.1.toArray⟩
  | 6, v, _ => v = .tuple #[enV V, .bool B]
  | 7, v, _ => v = .tuple #[enV V, .bool B]
  | 8, v, _ => v = enV V
  | 9, v, _ => v = .bool B
  | 10, v, x => ∃ g, v = .pointer (some ⟨g, 0, none⟩) ∧ B0 ≤ g ∧ ∃ cs, CB x g 51 cs ∧ cs.length = 20
  | 11, _, _ => True
  | 12, v, _ => v = .bool B
  | _, _, _ => True
theorem BscF.kept {e V : En} {c b g0 B0 : Nat} {B : Bool} : ∀ (j : Nat) (v : Value) (x y : World), WrN B0 51 20 x y → BscF e V c b g0 B0 B j v x → BscF e V c b g0 B0 B j v y
  | 0, _, _, _, _, h => h
  | 1, _, _, _, _, h => h
  | 2, _, _, _, _, h => h
  | 3, _, _, _, _, h => h
  | 4, _, _, _, _, h => h
  | 5, _, _, _, _, h => h
  | 6, _, _, _, _, h => h
  | 7, _, _, _, _, h => h
  | 8, _, _, _, _, h => h
  | 9, _, _, _, _, h => h
  | 10, _, _, _, hg, ⟨g, h1, h2, cs, h3, h4⟩ => ⟨g, h1, h2, hg.block h3 h4⟩
  | 11, _, _, _, _, h => h
  | 12, _, _, _, _, h => h
  | _ + 13, _, _, _, _, _ => by simp [BscF]

/-- What Put leaves. -/
def PutR (w : World) (c b : Nat) (r : Em × Int) (x : Ending) (w' : World) : Prop := x = .returned (.int .i64 r.2) ∧ BS w' c b r.1 ∧ w.grownBy w' (some b)

set_option maxRecDepth 10000 in
set_option maxHeartbeats 1000000 in
theorem put_wrong (e : En) (he : enOk e) (w : World) (hM : ML w) (c b : Nat) (M : Em) (h : BS w c b M) (hr : rightE e = false) :
    Calls Tryd.prog 24 #[.pointer (some ⟨c, 0, none⟩), .agg (enC e).toArray] w (PutR w c b (M, 1)) := by
  have HE := Lib.hid he
  have HR := Lib.hid hr
  have HLE := Lib.hid (enC_length he.lk)
  have HM := Lib.hid (show ML (w.alloc (.cells (enC e).toArray 51)) from hM.below ((Below.refl _ _).alloc (Nat.le_refl _) _))
  have HB := Lib.hid (CB.new w 51 (enC e))
  have HS := Lib.hid (h.none (grown_alloc w (.cells (enC e).toArray 51) none))
  have HG := Lib.hid (grown_alloc w (.cells (enC e).toArray 51) none)
  clear h he hr hM
  go_enter Tryd.func24, Tryd.ntmps24
  go_wp2_with (first
    | (refine wpList_loadC (off := 0) (p := enC e) aggE rfl (.tmp 3) rfl HB.out (take_all HLE.out) (by rw [HLE.out]; omega) (by first | rfl | go_simp) ?_)
    | (go_at_call 56; refine (isRight_any e HE.out _ HM.out).mono ?_; rintro r w1 ⟨rfl, g1⟩; rw [HR.out]; have S1 := Lib.hid (HS.out.none g1); have G1 := Lib.hid (grown_trans' HG.out g1); clear g1))
  go_ret
  exact ⟨rfl, S1.out, grown_some G1.out b⟩

set_option maxRecDepth 10000 in
set_option maxHeartbeats 2000000 in
theorem put_right (e : En) (he : enOk e) (w : World) (hM : ML w) (c b : Nat) (M : Em) (h : BS w c b M) (hlen : M.length ≤ 1000000) (hr : rightE e = true) (r : Em × Int) (hp : r = if e.1 ∉ keysM M ∧ 16 ≤ M.length then (M, 2) else (withoutM M e.1 ++ [(e.1, e)], 0)) :
    Calls Tryd.prog 24 #[.pointer (some ⟨c, 0, none⟩), .agg (enC e).toArray] w (PutR w c b r) := by
  have HE := Lib.hid he
  have HR := Lib.hid hr
  have HLE := Lib.hid (enC_length he.lk)
  have HLZ := Lib.hid (enC_length (e := zeroEn) (zeros_length 16))
  have HOK := Lib.hid (okS e.1 (by have := he.ln; omega))
  have HM := Lib.hid (show ML (w.alloc (.cells (enC e).toArray 51)) from hM.below ((Below.refl _ _).alloc (Nat.le_refl _) _))
  have HB := Lib.hid (CB.new w 51 (enC e))
  have HS := Lib.hid (h.none (grown_alloc w (.cells (enC e).toArray 51) none))
  have HG := Lib.hid (grown_alloc w (.cells (enC e).toArray 51) none)
  have HLN := Lib.hid hlen
  obtain ⟨V, B, hV, hBk⟩ : ∃ (V : En) (B : Bool), ((∀ u, (e.1, u) ∈ M → enV V = enV u ∧ B = true) ∧ (e.1 ∉ keysM M → enV V = .agg (enC zeroEn).toArray ∧ B = false) ∧ V.2.1.length = 16) ∧ (B = true ↔ e.1 ∈ keysM M) := by
    by_cases hin : e.1 ∈ keysM M
    · obtain ⟨v, hv⟩ := mem_keysM.1 hin
      exact ⟨v, true, ⟨fun u hu => ⟨by rw [key_mem h.2.1.1.1 hu hv], rfl⟩, fun h2 => absurd hin h2, (h.2.2.2 _ hv).2.lk⟩, fun _ => hin, fun _ => rfl⟩
    · exact ⟨zeroEn, false, ⟨fun u hu => absurd (mem_keysM.2 ⟨u, hu⟩) hin, fun _ => ⟨rfl, rfl⟩, zeros_length 16⟩, (fun h2 => by cases h2), fun h2 => absurd h2 hin⟩
  have HV1 := Lib.hid hV.1
  have HV2 := Lib.hid hV.2.1
  have HLV := Lib.hid (enC_length hV.2.2)
  have HNE := Lib.hid (show w.heap.size ≠ c ∧ w.heap.size ≠ b from ⟨fun e => by have := h.lt; omega, fun e => by have := h.lt; omega⟩)
  have HLB := Lib.hid (show c < w.heap.size ∧ b < w.heap.size from h.lt)
  clear h he hr hM hlen hV
  go_enter Tryd.func24, Tryd.ntmps24
  go_wp2_with (first
    | (refine wpList_loadC (off := 0) (p := enC e) aggE rfl (.tmp 3) rfl HB.out (take_all HLE.out) (by rw [HLE.out]; omega) (by first | rfl | go_simp) ?_)
    | (go_at_call 56; refine (isRight_any e HE.out _ HM.out).mono ?_; rintro r w1 ⟨rfl, g1⟩; rw [HR.out]; have HS1 := Lib.hid (HS.out.none g1); have HB1 := Lib.hid (HB.out.kept g1); have G1 := Lib.hid (grown_trans' HG.out g1); have HSZ1 := Lib.hid (show w.heap.size + 1 ≤ w1.heap.size from Nat.le_trans (Nat.le_of_eq (World.size_alloc _ _).symm) g1.size); clear g1))
  have HW1 := Lib.hid (Nat.le_refl w1.heap.size)
  have HW0 := Lib.hid (show w1.heap.size ≤ w1.drew.heap.size from Nat.le_refl _)
  have HLT := Lib.hid (show c < w1.heap.size ∧ b < w1.heap.size ∧ w.heap.size < w1.heap.size by have h1 := HLB.out; have h2 := HSZ1.out; omega)
  generalize hg0 : w.heap.size = g0 at *
  have HG0 := Lib.hid hg0
  generalize hB0 : w1.heap.size = B0 at *
  have HWB := Lib.hid hB0
  clear hg0 hB0
  refine region_wr (n := 13) (ds := [some 11, some 12, some 13, some 14, some 15, some 16, some 17, some 10, some 18, some 19, some 5, none, some 6]) (WrN B0 51 20) (fun x => BS x c b M ∧ CB x g0 51 (enC e) ∧ w1.grownBy x none ∧ B0 ≤ x.heap.size) (BscF e V c b g0 B0 B) (by kernel_rfl) (by kernel_rfl) rfl (by kernel_rfl) (fun x y hg h => hg.step h HLT.out (Nat.le_of_eq HWB.out)) (fun j v x y hg _ h => BscF.kept j v x y hg h) ⟨HS1.out, HB1.out, grown_drew (World.grownBy.refl w1 none), HW0.out⟩ ⟨⟨⟨⟨⟨⟨⟨⟨⟨⟨⟨⟨⟨trivial, ?_⟩, ?_⟩, ?_⟩, ?_⟩, ?_⟩, ?_⟩, ?_⟩, ?_⟩, ?_⟩, ?_⟩, ?_⟩, ?_⟩, ?_⟩ ?_
  · refine Inv.duty_plain rfl rfl (fun L vs a x hG dep up val ev out K hK => ?_)
    obtain ⟨hS, hB, hW, hZ⟩ := hG
    have e0 : a.eval (.tmp 0) = .pointer (some ⟨c, 0, none⟩) := (out 0 (by kernel_rfl)).trans rfl
    refine Inv.wp_value (v := .pointer (some ⟨c, 0, none⟩)) ?_ (hK.out _ _ (WrN.refl x) rfl)
    clear hK K dep up val ev out
    generalize a.eval = ρ at *
    (simp [execOp, go_sem, *]; done)
  · refine Inv.duty_plain rfl rfl (fun L vs a x hG dep up val ev out K hK => ?_)
    obtain ⟨hS, hB, hW, hZ⟩ := hG
    have L11 := dep 0 (by kernel_rfl)
    have e11 : a.eval (.tmp 11) = .pointer (some ⟨c, 0, none⟩) := (ev 0 11 L11 (by kernel_rfl)).trans (val 0 L11)
    refine Inv.wp_value (v := .pointer (some ⟨c, 0, none⟩)) ?_ (hK.out _ _ (WrN.refl x) rfl)
    clear hK K dep up val ev out
    generalize a.eval = ρ at *
    (simp [execOp, go_sem, *]; done)
  · refine Inv.duty_plain rfl rfl (fun L vs a x hG dep up val ev out K hK => ?_)
    obtain ⟨hS, hB, hW, hZ⟩ := hG
    have L12 := dep 1 (by kernel_rfl)
    have e12 : a.eval (.tmp 12) = .pointer (some ⟨c, 0, none⟩) := (ev 1 12 L12 (by kernel_rfl)).trans (val 1 L12)
    refine Inv.wp_value (v := .pointer (some ⟨c, 0, none⟩)) ?_ (hK.out _ _ (WrN.refl x) rfl)
    clear hK K dep up val ev out
    generalize a.eval = ρ at *
    (simp [execOp, go_sem, *]; done)
  · refine Inv.duty_plain rfl rfl (fun L vs a x hG dep up val ev out K hK => ?_)
    obtain ⟨hS, hB, hW, hZ⟩ := hG
    have L13 := dep 2 (by kernel_rfl)
    have e13 : a.eval (.tmp 13) = .pointer (some ⟨c, 0, none⟩) := (ev 2 13 L13 (by kernel_rfl)).trans (val 2 L13)
    have q0 : x.cell? ⟨c, 0, none⟩ = some (.map (some b)) := hS.1.at_ rfl
    refine Inv.wp_value (v := .map (some b)) ?_ (hK.out _ _ (WrN.refl x) rfl)
    clear hK K dep up val ev out hS hB hW hZ
    generalize a.eval = ρ at *
    (simp [execOp, go_sem, *]; done)
  · refine Inv.duty_plain rfl rfl (fun L vs a x hG dep up val ev out K hK => ?_)
    obtain ⟨hS, hB, hW, hZ⟩ := hG
    have e3 : a.eval (.tmp 3) = .pointer (some ⟨g0, 0, none⟩) := (out 3 (by kernel_rfl)).trans rfl
    refine Inv.wp_value (v := .pointer (some ⟨g0, 0, none⟩)) ?_ (hK.out _ _ (WrN.refl x) rfl)
    clear hK K dep up val ev out
    generalize a.eval = ρ at *
    (simp [execOp, go_sem, *]; done)
  · refine Inv.duty_plain rfl rfl (fun L vs a x hG dep up val ev out K hK => ?_)
    obtain ⟨hS, hB, hW, hZ⟩ := hG
    have L15 := dep 4 (by kernel_rfl)
    have e15 : a.eval (.tmp 15) = .pointer (some ⟨g0, 0, none⟩) := (ev 4 15 L15 (by kernel_rfl)).trans (val 4 L15)
    have q0 : x.cell? ⟨g0, 0, none⟩ = some (.string ⟨e.1.toArray⟩) := hB.at_ (enC_name e)
    refine Inv.wp_value (v := .string ⟨e.1.toArray⟩) ?_ (hK.out _ _ (WrN.refl x) rfl)
    clear hK K dep up val ev out hS hB hW hZ
    generalize a.eval = ρ at *
    (simp [execOp, go_sem, *]; done)
  · refine Inv.duty_plain rfl rfl (fun L vs a x hG dep up val ev out K hK => ?_)
    obtain ⟨hS, hB, hW, hZ⟩ := hG
    have L14 := dep 3 (by kernel_rfl)
    have e14 : a.eval (.tmp 14) = .map (some b) := (ev 3 14 L14 (by kernel_rfl)).trans (val 3 L14)
    have L16 := dep 5 (by kernel_rfl)
    have e16 : a.eval (.tmp 16) = .string ⟨e.1.toArray⟩ := (ev 5 16 L16 (by kernel_rfl)).trans (val 5 L16)
    exact wp_lookV keyedS strV_inj (.tmp 14) (.tmp 16) rfl Tryd.underlying108 zeroE_run hS.2.1 e14 e.1 HOK.out e16 (enV V) B HV1.out HV2.out (hK.out _ _ (WrN.refl x) rfl)
  · refine Inv.duty_plain rfl rfl (fun L vs a x hG dep up val ev out K hK => ?_)
    obtain ⟨hS, hB, hW, hZ⟩ := hG
    have L17 := dep 6 (by kernel_rfl)
    have e17 : a.eval (.tmp 17) = .tuple #[enV V, .bool B] := (ev 6 17 L17 (by kernel_rfl)).trans (val 6 L17)
    refine Inv.wp_value (v := .tuple #[enV V, .bool B]) ?_ (hK.out _ _ (WrN.refl x) rfl)
    clear hK K dep up val ev out
    generalize a.eval = ρ at *
    (simp [execOp, go_sem, *]; done)
  · refine Inv.duty_plain rfl rfl (fun L vs a x hG dep up val ev out K hK => ?_)
    obtain ⟨hS, hB, hW, hZ⟩ := hG
    have L10 := dep 7 (by kernel_rfl)
    have e10 : a.eval (.tmp 10) = .tuple #[enV V, .bool B] := (ev 7 10 L10 (by kernel_rfl)).trans (val 7 L10)
    refine Inv.wp_value (v := enV V) ?_ (hK.out _ _ (WrN.refl x) rfl)
    clear hK K dep up val ev out
    generalize a.eval = ρ at *
    (simp [execOp, go_sem, *]; done)
  · refine Inv.duty_plain rfl rfl (fun L vs a x hG dep up val ev out K hK => ?_)
    obtain ⟨hS, hB, hW, hZ⟩ := hG
    have L10 := dep 7 (by kernel_rfl)
    have e10 : a.eval (.tmp 10) = .tuple #[enV V, .bool B] := (ev 7 10 L10 (by kernel_rfl)).trans (val 7 L10)
    refine Inv.wp_value (v := .bool B) ?_ (hK.out _ _ (WrN.refl x) rfl)
    clear hK K dep up val ev out
    generalize a.eval = ρ at *
    (simp [execOp, go_sem, *]; done)
  · refine Inv.duty_plain rfl rfl (fun L vs a x hG dep up val ev out K hK => ?_)
    obtain ⟨hS, hB, hW, hZ⟩ := hG
    exact wp_allocC (cs := enC zeroEn) zeroE_run rfl (hK.out _ _ (.inl (grown_alloc x _ _)) ⟨_, rfl, hZ, _, CB.new _ _ _, HLZ.out⟩)
  · refine Inv.duty_plain rfl rfl (fun L vs a x hG dep up val ev out K hK => ?_)
    obtain ⟨hS, hB, hW, hZ⟩ := hG
    have L5 := dep 10 (by kernel_rfl)
    have e5 := ev 10 5 L5 (by kernel_rfl)
    have f5 := val 10 L5
    have L18 := dep 8 (by kernel_rfl)
    have e18 : a.eval (.tmp 18) = enV V := (ev 8 18 L18 (by kernel_rfl)).trans (val 8 L18)
    obtain ⟨g, hv5, hg5, cs5, hc5, hl5⟩ := f5
    exact wp_storeC (off := 0) (p := enC V) aggE.hi rfl (.tmp 5) (.tmp 18) rfl (enV V) rfl (enC_one V) hc5 HLV.out (by rw [hl5]; omega) (e5.trans hv5) e18 (fun w' h2 g2 => hK.out _ _ (.inr ⟨g, hg5, g2, _, h2, by rw [over_len _ _ (by rw [HLV.out, hl5]; omega), hl5]⟩) trivial)
  · refine Inv.duty_plain rfl rfl (fun L vs a x hG dep up val ev out K hK => ?_)
    obtain ⟨hS, hB, hW, hZ⟩ := hG
    have L19 := dep 9 (by kernel_rfl)
    have e19 : a.eval (.tmp 19) = .bool B := (ev 9 19 L19 (by kernel_rfl)).trans (val 9 L19)
    refine Inv.wp_value (v := .bool B) ?_ (hK.out _ _ (WrN.refl x) rfl)
    clear hK K dep up val ev out
    generalize a.eval = ρ at *
    (simp [execOp, go_sem, *]; done)
  intro vs w' hG hv
  have hZ : vs 12 = .bool B := hv 12 (by omega)
  simp only [Inv.putAll, Act.put, List.setIfInBounds_toArray, List.set_cons_zero, List.set_cons_succ, Nat.zero_add, Nat.reduceAdd]
  rw [hZ]
  clear hv hZ
  have S2 := Lib.hid hG.1
  have B2 := Lib.hid hG.2.1
  have G2 := Lib.hid (grown_trans' G1.out hG.2.2.1)
  clear hG
  have q0 : w'.cell? ⟨c, 0, none⟩ = some (.map (some b)) := S2.out.1.at_ rfl
  cases hb : B with
  | true =>
    have HP := Lib.hid (show r = (withoutM M e.1 ++ [(e.1, e)], 0) by rw [hp, if_neg (fun h => h.1 (hBk.1 hb))])
    clear hp hBk hb
    go_wp2_with (first
      | (refine wpList_loadC (off := 0) (p := enC e) aggE rfl (.tmp 3) rfl B2.out (take_all HLE.out) (by rw [HLE.out]; omega) (by first | rfl | go_simp) ?_)
      | (go_at_call 57; refine (apart_any e HE.out _).mono ?_; rintro r w3 ⟨rfl, g3⟩; have S3 := Lib.hid (S2.out.none g3); have B3 := Lib.hid (B2.out.kept g3); have G3 := Lib.hid (grown_trans' G2.out g3); clear g3)
      | (refine wpList_storeC (off := 0) (p := enC e) aggE.hi rfl (.tmp 3) (.tmp 31) rfl (.agg (enC e).toArray) rfl (enC_one e) B3.out HLE.out (by rw [HLE.out]; omega) (by first | rfl | go_simp) (by first | rfl | go_simp) ?_; intro w4 h4 g4; rw [over_all _ _ (Nat.le_refl _)] at h4; have B4 := Lib.hid h4; have S4 := Lib.hid (S3.out.far g4 HNE.out.1 HNE.out.2); have G4 := Lib.hid (none_new G3.out g4 (Nat.le_of_eq HG0.out)); clear h4 g4))
    have q5 : w4.cell? ⟨c, 0, none⟩ = some (.map (some b)) := S4.out.1.at_ rfl
    have q6 : w4.cell? ⟨g0, 0, none⟩ = some (.string ⟨e.1.toArray⟩) := B4.out.at_ (enC_name e)
    have S5 := Lib.hid (show BS w4.drew c b M from S4.out)
    go_still_tail 7, (by kernel_rfl)
    refine wpStill_step (fun KK hK => ?_)
    refine still_loadC aggE (.tmp 3) rfl B4.out (take_all HLE.out) (by rw [HLE.out]; omega) rfl (hK _ ?_)
    clear hK KK
    repeat still_step
    refine wpStill_nil ?_
    change wpList _ _ _ _ _ w4.drew
    go_wp2_with (refine wpList_putM keyedS strV_inj rfl _ _ _ rfl Tryd.underlying108 S5.out.2.1 (by have := HLN.out; unfold maxLen; omega) rfl e.1 e HOK.out rfl rfl ?_; intro w5 hM5 hT5)
    go_ret
    rw [HP.out]
    exact ⟨rfl, ⟨S5.out.1.grown hT5.grown S5.out.2.2.1, hM5, S5.out.2.2.1, EmOk.put1 S5.out.2.2.2 HE.out⟩, grown_trans' (grown_drew (grown_some G4.out b)) hT5.grown⟩
  | false =>
    have hin : e.1 ∉ keysM M := fun h => by rw [hBk.2 h] at hb; cases hb
    by_cases h16 : 16 ≤ M.length
    · have HP := Lib.hid (show r = (M, 2) by rw [hp, if_pos ⟨hin, h16⟩])
      have d1 : decide ((16 : Int) ≤ (M.length : Int)) = true := decide_eq_true (by omega)
      clear hp hBk hb hin
      go_wp2_with (refine wpList_lenMg (by first | rfl | go_simp) _ rfl Tryd.underlying108 S2.out.2.1 rfl ?_)
      go_ret
      rw [HP.out]
      exact ⟨rfl, S2.out, grown_some G2.out b⟩
    · have HP := Lib.hid (show r = (withoutM M e.1 ++ [(e.1, e)], 0) by rw [hp, if_neg (fun h => h16 h.2)])
      have d1 : decide ((16 : Int) ≤ (M.length : Int)) = false := decide_eq_false (by omega)
      clear hp hBk hb hin
      go_wp2_with (first
        | (refine wpList_lenMg (by first | rfl | go_simp) _ rfl Tryd.underlying108 S2.out.2.1 rfl ?_)
        | (refine wpList_loadC (off := 0) (p := enC e) aggE rfl (.tmp 3) rfl B2.out (take_all HLE.out) (by rw [HLE.out]; omega) (by first | rfl | go_simp) ?_)
        | (go_at_call 57; refine (apart_any e HE.out _).mono ?_; rintro r w3 ⟨rfl, g3⟩; have S3 := Lib.hid (S2.out.none g3); have B3 := Lib.hid (B2.out.kept g3); have G3 := Lib.hid (grown_trans' G2.out g3); clear g3)
        | (refine wpList_storeC (off := 0) (p := enC e) aggE.hi rfl (.tmp 3) (.tmp 31) rfl (.agg (enC e).toArray) rfl (enC_one e) B3.out HLE.out (by rw [HLE.out]; omega) (by first | rfl | go_simp) (by first | rfl | go_simp) ?_; intro w4 h4 g4; rw [over_all _ _ (Nat.le_refl _)] at h4; have B4 := Lib.hid h4; have S4 := Lib.hid (S3.out.far g4 HNE.out.1 HNE.out.2); have G4 := Lib.hid (none_new G3.out g4 (Nat.le_of_eq HG0.out)); clear h4 g4))
      have q5 : w4.cell? ⟨c, 0, none⟩ = some (.map (some b)) := S4.out.1.at_ rfl
      have q6 : w4.cell? ⟨g0, 0, none⟩ = some (.string ⟨e.1.toArray⟩) := B4.out.at_ (enC_name e)
      have S5 := Lib.hid (show BS w4.drew c b M from S4.out)
      go_still_tail 7, (by kernel_rfl)
      refine wpStill_step (fun KK hK => ?_)
      refine still_loadC aggE (.tmp 3) rfl B4.out (take_all HLE.out) (by rw [HLE.out]; omega) rfl (hK _ ?_)
      clear hK KK
      repeat still_step
      refine wpStill_nil ?_
      change wpList _ _ _ _ _ w4.drew
      go_wp2_with (refine wpList_putM keyedS strV_inj rfl _ _ _ rfl Tryd.underlying108 S5.out.2.1 (by have := HLN.out; unfold maxLen; omega) rfl e.1 e HOK.out rfl rfl ?_; intro w5 hM5 hT5)
      go_ret
      rw [HP.out]
      exact ⟨rfl, ⟨S5.out.1.grown hT5.grown S5.out.2.2.1, hM5, S5.out.2.2.1, EmOk.put1 S5.out.2.2.2 HE.out⟩, grown_trans' (grown_drew (grown_some G4.out b)) hT5.grown⟩

theorem put_any (e : En) (he : enOk e) (w : World) (hM : ML w) (c b : Nat) (M : Em) (h : BS w c b M) (hlen : M.length ≤ 1000000) :
    Calls Tryd.prog 24 #[.pointer (some ⟨c, 0, none⟩), .agg (enC e).toArray] w (PutR w c b (putE M e)) := by
  unfold putE
  cases hr : rightE e with
  | false => rw [if_pos rfl]; exact put_wrong e he w hM c b M h hr
  | true => rw [if_neg (by simp)]; exact put_right e he w hM c b M h hlen hr _ rfl
end Go.Proofs.YtejmbabeniekhaaDoor
namespace Go.Proofs.YtejmbabeniekhaaDoor
open Go.RowKit Go.Maps Go.WideMaps
open Go.WideShapes (sorted_perm)

/-! The entries of a map with string keys, in the order of its keys. -/
section
variable {β : Type}
/-- What stands under a key. -/
def lookM (z : β) (M : List (List UInt8 × β)) (x : List UInt8) : β := ((M.find? fun p => decide (p.1 = x)).map (·.2)).getD z
theorem lookM_mem (z : β) : ∀ {M : List (List UInt8 × β)} {x : List UInt8}, x ∈ keysM M → (x, lookM z M x) ∈ M
  | [], x, h => by cases h
  | p :: M, x, h => by
    unfold lookM
    rw [List.find?_cons]
    by_cases e : p.1 = x
    · rw [decide_eq_true e]
      show (x, p.2) ∈ p :: M
      rw [← e]
      exact List.mem_cons_self
    · rw [decide_eq_false e]
      unfold keysM at h
      rw [List.map_cons, List.mem_cons] at h
      exact List.mem_cons_of_mem _ (lookM_mem z (h.resolve_left (fun e2 => e e2.symm)))
theorem lookM_eq (z : β) {M : List (List UInt8 × β)} (hd : (keysM M).Nodup) {p : List UInt8 × β} (hp : p ∈ M) : lookM z M p.1 = p.2 := by
  have h1 := lookM_mem z (mem_keysM.2 ⟨p.2, hp⟩)
  have hpw : M.Pairwise (fun p q => p.1 ≠ q.1) := List.pairwise_map.1 hd
  exact Classical.byContradiction fun hne => by
    have : ∀ M : List (List UInt8 × β), M.Pairwise (fun p q => p.1 ≠ q.1) → ∀ a b : List UInt8 × β, a ∈ M → b ∈ M → a.1 = b.1 → a = b := by
      intro M h
      induction M with
      | nil => intro a b ha; cases ha
      | cons p M ih =>
        obtain ⟨h3, h4⟩ := List.pairwise_cons.1 h
        intro a b ha hb e
        rcases List.mem_cons.1 ha with ea | ha2
        · rcases List.mem_cons.1 hb with eb | hb2
          · rw [ea, eb]
          · exact absurd (by rw [← ea]; exact e) (h3 _ hb2)
        · rcases List.mem_cons.1 hb with eb | hb2
          · exact absurd (by rw [← eb]; exact e.symm) (h3 _ ha2)
          · exact ih h4 a b ha2 hb2 e
    exact hne (congrArg Prod.snd (this M hpw _ _ h1 hp rfl))
theorem lookM_perm (z : β) {M : List (List UInt8 × β)} (hd : (keysM M).Nodup) {ks : List (List UInt8)} (hp : ks.Perm (keysM M)) : (ks.map (lookM z M)).Perm (M.map (·.2)) := by
  refine (hp.map _).trans (List.Perm.of_eq ?_)
  unfold keysM
  rw [List.map_map]
  exact List.map_congr_left fun p hp => lookM_eq z hd hp
theorem strKeys_datM {P : Program} {k : TypeId} {vv : β → Value} (hk : P.underlying k = some .string) {M : List (List UInt8 × β)} (h : FineM P k strV M) : (strKeys (datM P k strV vv M)).Perm (keysM M) := by
  unfold datM strKeys
  refine ((sorted_perm _).map _).trans (List.Perm.of_eq ?_)
  unfold keysM
  rw [List.map_map]
  refine List.map_congr_left fun p hp => ?_
  obtain ⟨s, h1, h2, _⟩ := string_of_keyOf hk (h.2 p.1 (mem_keysM.2 ⟨p.2, hp⟩))
  show strOf (litOf P k strV p.1) = p.1
  rw [h2]
  have h3 := Value.string.inj h1
  show s.data.toList = p.1
  rw [← h3]
/-- Keys that are sorted. -/
def SortedK (ks : List (List UInt8)) : Prop := ks.Pairwise (fun a b => a ≤ b)
theorem sorted_merge (ss : List (List UInt8)) : SortedK (ss.mergeSort (fun x y => decide (x ≤ y))) := by
  have hr : ∀ a b c : List UInt8, decide (a ≤ b) = true → decide (b ≤ c) = true → decide (a ≤ c) = true := fun a b c h1 h2 => by simp only [decide_eq_true_eq] at *; exact List.le_trans h1 h2
  have ho : ∀ a b : List UInt8, (decide (a ≤ b) || decide (b ≤ a)) = true := fun a b => by simp only [Bool.or_eq_true, decide_eq_true_eq]; exact List.le_total a b
  exact (List.pairwise_mergeSort hr ho ss).imp fun h => by simpa using h
theorem none_rowB {a b c : World} {r : Option Nat} (h : a.grownBy b none) (k : b.grownBy c r) (hr : ∀ g, r = some g → a.heap.size ≤ g) : a.grownBy c none := by
  cases r with
  | none => exact grown_trans' h k
  | some g => exact none_new h k (hr g rfl)
/-- What a listing gives: in the order of the keys, each once. -/
def ListedM (M : List (List UInt8 × β)) (ks : List (List UInt8)) : Prop := ks.Perm (keysM M) ∧ SortedK ks
end

set_option maxRecDepth 10000 in
theorem rowE : RowT Tryd.prog 45 51 20 := ⟨Tryd.underlying45, by
  refine ⟨_, _, rfl, rfl, rfl, ?_, rfl⟩
  decide, by omega⟩
theorem size1E : (Tryd.prog.info? 51).map (·.size) = some 20 := by kernel_rfl
/-- The row of keys, as a slice of one cell each. -/
theorem keys_row {w : World} {base : Nat} {t : TypeId} {v : Value} {ks : List (List UInt8)} {n : Nat} (hn : n = ks.length) (h : w.ownsRow base t 1 v n (ks.map Go.Proofs.encStr)) : RowX w base t 1 v (ks.map fun x => [strV x]) := by
  subst hn
  refine ⟨?_, fun c hc => ?_⟩
  · rw [List.length_map]
    have : (ks.map fun x => [strV x]).flatten = ks.map Go.Proofs.encStr := by
      clear h
      induction ks with
      | nil => rfl
      | cons x ks ih => rw [List.map_cons, List.flatten_cons, ih]; rfl
    rw [this]
    exact h
  · obtain ⟨x, _, rfl⟩ := List.mem_map.1 hc
    rfl

set_option maxRecDepth 10000 in
set_option maxHeartbeats 2000000 in
theorem list_any (w : World) (c b : Nat) (M : Em) (h : BS w c b M) (hlen : M.length ≤ 1000000) :
    Calls Tryd.prog 28 #[.pointer (some ⟨c, 0, none⟩)] w fun e w' => ∃ v ks, e = .returned v ∧ ListedM M ks ∧ RowX w' w.heap.size 51 20 v ((ks.map (lookM zeroEn M)).map enC) ∧ w.grownBy w' none := by
  have q0 : w.cell? ⟨c, 0, none⟩ = some (.map (some b)) := h.1.at_ rfl
  have HS := Lib.hid h
  have HLN := Lib.hid hlen
  have HM := Lib.hid h.2.1.2
  have HFM := Lib.hid h.2.1.1
  have HG := Lib.hid (grown_alloc w (.cells #[.map (some b)] 108) none)
  have HD := Lib.hid (show Maps.size (datM Tryd.prog 9 strV enV M) ≤ maxLen ∧ Maps.size (datM Tryd.prog 9 strV enV M) * 16 ≤ 140737488355328 by rw [size_datM]; unfold maxLen; omega)
  clear h hlen
  go_enter Tryd.func28, Tryd.ntmps28
  go_wp2_with (first
    | (go_at_call 60; refine (callsIn_wide.1 (sh_maps_Keys_60 (some b) _)).mono ?_; rintro e w1 ⟨rfl, rfl⟩)
    | (go_at_call 59; refine (callsIn_wide.1 (sh_slices_Sorted_keys_59_60 b _ _ RV w HM.out HD.out.1 HD.out.2)).mono ?_; rintro e w1 ⟨v, ss, rfl, hss, hrow, -, hb⟩; have G1 := Lib.hid (grown_trans' HG.out (none_of_below hb (Nat.le_refl _)))
       obtain ⟨ks, hks, hl⟩ : ∃ ks : List (List UInt8), ks = ss.mergeSort (fun x y => decide (x ≤ y)) ∧ ss.length = ks.length := ⟨_, rfl, (List.Perm.length_eq (List.mergeSort_perm _ _)).symm⟩
       have HKS := Lib.hid (show ListedM M ks from ⟨by rw [hks]; exact (List.mergeSort_perm _ _).trans (hss.trans (strKeys_datM Tryd.underlying9 HFM.out)), by rw [hks]; exact sorted_merge ss⟩)
       rw [← hks] at hrow
       obtain ⟨A, cap, hv, hsr, -⟩ := (keys_row hl hrow).shape
       obtain ⟨n, hn⟩ : ∃ n, n = ks.length := ⟨_, rfl⟩
       rw [List.length_map, ← hn] at hv
       subst hv
       have HSR := Lib.hid hsr; have HN := Lib.hid hn
       have HNM := Lib.hid (show n ≤ 1000000 by rw [hn, HKS.out.1.length_eq]; unfold keysM; rw [List.length_map]; exact HLN.out)
       clear hss hrow hb hks hl hsr hn))
  have S1 := Lib.hid (HS.out.none G1.out)
  have HR1 := Lib.hid (RowX.nil_ w1 w1.heap.size 51 20)
  clear q0
  go_loopw [3, 13] (fun vl i wr => ∃ k : Nat, k ≤ n ∧ i = .int .i64 k ∧ RowX wr w1.heap.size 51 20 vl (((ks.take k).map (lookM zeroEn M)).map enC) ∧ w1.grownBy wr none) (fun _ i _ => n - (intOf i).toNat)
  case atStart => exact ⟨0, Nat.zero_le _, rfl, by simpa using HR1.out, World.grownBy.refl w1 none⟩
  case round =>
    obtain ⟨k, hk, rfl, hRL, hW⟩ := hrel
    have HRL := Lib.hid hRL
    have HW := Lib.hid hW
    have SR1 := Lib.hid (S1.out.none hW)
    have hn0 := HNM.out
    by_cases hlt : k < n
    · obtain ⟨x, hx⟩ : ∃ x, x = ks[k]'(by rw [← HN.out]; exact hlt) := ⟨_, rfl⟩
      have hxm : x ∈ keysM M := HKS.out.1.mem_iff.1 (by rw [hx]; exact List.getElem_mem _)
      obtain ⟨e, he⟩ : ∃ e, e = lookM zeroEn M x := ⟨_, rfl⟩
      have HEM := Lib.hid (show (x, e) ∈ M by rw [he]; exact lookM_mem zeroEn hxm)
      have HEO := Lib.hid (show enOk e from (S1.out.2.2.2 _ HEM.out).2)
      have HTK := Lib.hid (show ((ks.take (k + 1)).map (lookM zeroEn M)).map enC = ((ks.take k).map (lookM zeroEn M)).map enC ++ [enC e] by rw [List.take_succ_eq_append_getElem (by rw [← HN.out]; exact hlt), List.map_append, List.map_append, he, hx]; rfl)
      obtain ⟨ab, ao, hAe, hab, hcells⟩ := HSR.out.elem (k := k) (by rw [List.length_map, ← HN.out]; exact hlt)
      have hce : (ks.map fun x => [strV x])[k]'(by rw [List.length_map, ← HN.out]; exact hlt) = [strV x] := by rw [List.getElem_map, hx]
      rw [hce] at hcells
      have hc0 := ((below_of_none HW.out).cell (p := ⟨ab, ao + 1 * k + 0, none⟩) hab).trans (hcells 0 _ rfl)
      rw [Nat.one_mul, Nat.add_zero] at hc0
      have q1 : wr.cell? ⟨ab, ao + k, none⟩ = some (.string ⟨x.toArray⟩) := hc0
      have q0 : wr.cell? ⟨c, 0, none⟩ = some (.map (some b)) := SR1.out.1.at_ rfl
      have HLE := Lib.hid (enC_length HEO.out.lk)
      have HLR := Lib.hid (show (((ks.take k).map (lookM zeroEn M)).map enC).length ≤ 1000000000 by rw [List.length_map, List.length_map, List.length_take]; omega)
      have HSZ := Lib.hid HW.out.size
      subst hAe
      clear hce hcells hc0 hx hxm he hab hRL hW
      go_wp2_with (first
        | refine wpList_look1In keyedS strV_inj rfl _ _ rfl Tryd.underlying108 zeroE_run SR1.out.2.1 rfl x e rfl HEM.out ?_
        | (go_at_call 57; refine (apart_any e HEO.out _).mono ?_; rintro r w3 ⟨rfl, g3⟩; have W3 := Lib.hid (grown_trans' HW.out g3); have RL3 := Lib.hid (HRL.out.none g3); have SZ3 := Lib.hid (Nat.le_trans HSZ.out g3.size); have TK3 := Lib.hid True.intro; clear g3)
        | (have hx := TK3; clear hx TK3; refine wpList_lit1 (p := enC e) Tryd.underlying45 aggE.hi zeroE_run HLE.out (by omega) (by omega) rfl (.tmp 24) rfl rfl ?_
           have RL4 := Lib.hid (RL3.out.none (grown_alloc w3 (.cells (enC e).toArray 51) none)); have C4 := Lib.hid (CB.new w3 51 (enC e)); have W4 := Lib.hid (grown_trans' W3.out (grown_alloc w3 (.cells (enC e).toArray 51) none)); have TK4 := Lib.hid True.intro)
        | (have hx := TK4; clear hx TK4; refine wpList_appX rowE rfl (.tmp 17) (.tmp 25) rfl (b := w3.heap.size) (off := 0) (c := 1) RL4.out (fun j v hj => by have := C4.out.at_ hj; rwa [Nat.zero_add]) HLE.out (enC_one e) rfl rfl HLR.out (Nat.le_trans SZ3.out (by rw [World.size_alloc]; omega)) ?_
           intro v' w5 h5 g5 a5; have RL5 := Lib.hid h5; have W5 := Lib.hid (none_rowB W4.out g5 (fun g hg => (RL4.out.lt g hg).1)); clear h5 g5 a5))
      go_roundw
      case rel => exact ⟨k + 1, by omega, by go_num, by rw [HTK.out]; exact RL5.out, W5.out⟩
      case measure => simp [intOf]; omega
    · have hkn : k = n := by omega
      have HRF := HRL.out
      rw [hkn, HN.out, List.take_length] at HRF
      have HR2 := Lib.hid HRF
      clear HRF hRL hW
      go_wp2
      go_ret
      exact ⟨_, ks, rfl, HKS.out, HR2.out.base_ G1.out.size, grown_trans' G1.out HW.out⟩
end Go.Proofs.YtejmbabeniekhaaDoor
namespace Go.Proofs.YtejmbabeniekhaaDoor
open Go.RowKit Go.Maps Go.WideMaps

/-! The names a@R, b@R .. -/
def nmB (i : Nat) : List UInt8 := [UInt8.ofNat (97 + i), 64, 82]
def enB (i : Nat) (l : Int) : En := (nmB i, zeros 16, l, 0, false)
theorem nmB_inj {i j : Nat} (hi : i < 26) (hj : j < 26) (h : nmB i = nmB j) : i = j := by
  unfold nmB at h
  injection h with h _
  have h2 := congrArg UInt8.toNat h
  rw [UInt8.toNat_ofNat', UInt8.toNat_ofNat'] at h2
  omega
theorem nmB_parses : ∀ i, i < 26 → parses (nmB i) = true := by decide +kernel
theorem enB_right {i : Nat} (hi : i < 26) {l : Int} (h1 : 1 ≤ l) (h2 : l ≤ 1099511627776) : rightE (enB i l) = true := by
  unfold rightE
  rw [show (enB i l).1 = nmB i from rfl, nmB_parses i hi]
  simp [enB, h1, h2]
theorem enB_ok {i : Nat} {l : Int} (h1 : -9223372036854775808 ≤ l) (h2 : l ≤ 9223372036854775807) : enOk (enB i l) :=
  ⟨by show 3 ≤ 1000; omega, zeros_length 16, ⟨h1, h2⟩, by show (-9223372036854775808 : Int) ≤ 0 ∧ (0 : Int) ≤ 9223372036854775807; omega⟩
/-- The first n of them are known. -/
def stB (n : Nat) : Em := (List.range n).map fun i => (nmB i, enB i 1)
theorem stB_len (n : Nat) : (stB n).length = n := by simp [stB]
theorem stB_succ (n : Nat) : stB (n + 1) = stB n ++ [(nmB n, enB n 1)] := by simp [stB, List.range_succ]
theorem stB_mem {n i : Nat} (hn : n ≤ 26) (hi : i < 26) : nmB i ∈ keysM (stB n) ↔ i < n := by
  unfold keysM stB
  rw [List.map_map, List.mem_map]
  constructor
  · rintro ⟨j, hj, e⟩
    rw [List.mem_range] at hj
    have := nmB_inj (by omega) hi e
    omega
  · intro h
    exact ⟨i, List.mem_range.2 h, rfl⟩
theorem put_new {n : Nat} (h : n < 16) : putE (stB n) (enB n 1) = (stB (n + 1), 0) := by
  have hin : (enB n 1).1 ∉ keysM (stB n) := fun h2 => by have := (stB_mem (by omega) (by omega)).1 h2; omega
  unfold putE
  rw [enB_right (by omega) (by omega) (by omega), if_neg (by simp), if_neg (fun h2 => by have := h2.2; rw [stB_len] at this; omega), without_out _ _ hin, stB_succ]
  rfl
theorem put_more {M : Em} {i : Nat} (hi : i < 26) (hM : 16 ≤ M.length) (hin : nmB i ∉ keysM M) : putE M (enB i 1) = (M, 2) := by
  unfold putE
  rw [enB_right hi (by omega) (by omega), if_neg (by simp), if_pos ⟨hin, hM⟩]
theorem put_known {M : Em} {e : En} (h : rightE e = true) (hin : e.1 ∈ keysM M) : putE M e = (withoutM M e.1 ++ [(e.1, e)], 0) := by
  unfold putE
  rw [h, if_neg (by simp), if_neg (fun h2 => h2.1 hin)]
theorem put_room {M : Em} {e : En} (h : rightE e = true) (hM : M.length < 16) : putE M e = (withoutM M e.1 ++ [(e.1, e)], 0) := by
  unfold putE
  rw [h, if_neg (by simp), if_neg (fun h2 => by have := h2.2; omega)]
theorem keys_put {M : Em} {n x : List UInt8} {e : En} : x ∈ keysM (withoutM M n ++ [(n, e)]) ↔ x ∈ keysM M ∨ x = n := by
  unfold keysM
  rw [List.map_append, List.mem_append]
  have h := without_keys (M := M) (a := n) x
  unfold keysM at h
  rw [h]
  simp
  constructor
  · rintro (h | h)
    · exact .inl h.1
    · exact .inr h
  · intro h
    by_cases e : x = n
    · exact .inr e
    · exact .inl ⟨h.resolve_right e, e⟩
theorem without_put {M : Em} {n : List UInt8} {e : En} : withoutM (withoutM M n ++ [(n, e)]) n = withoutM M n := by
  unfold withoutM
  rw [List.filter_append, List.filter_filter]
  simp
/-- What BaseFull leaves at the end: one is put anew and goes, one more comes, a further one doesn't. -/
theorem full_end {k : Nat} (hk : k < 16) : ∃ M2 M3 M4 : Em, putE (stB 16) (enB k 2) = (M2, 0) ∧ (nmB k, enB k 2) ∈ M2 ∧ withoutM M2 (nmB k) = M3 ∧ putE M3 (enB 25 1) = (M4, 0) ∧ putE M4 (enB 24 1) = (M4, 2) ∧ M4.length = 16 ∧ M2.length = 16 ∧ M3.length = 15 ∧ nmB k ∈ keysM M2 := by
  have hin : nmB k ∈ keysM (stB 16) := (stB_mem (by omega) (by omega)).2 hk
  have hnd : (keysM (stB 16)).Nodup := by
    unfold keysM stB
    rw [List.map_map]
    refine List.Pairwise.map _ (R := fun a b => a ≠ b ∧ a < 26 ∧ b < 26) (fun a b h e => h.1 (nmB_inj h.2.1 h.2.2 e)) ?_
    exact List.Pairwise.imp_of_mem (fun ha hb h => ⟨h, by have := List.mem_range.1 ha; omega, by have := List.mem_range.1 hb; omega⟩) List.nodup_range
  have hl := without_len_in _ _ hnd hin
  rw [stB_len] at hl
  have h3 : (withoutM (stB 16) (nmB k)).length = 15 := by omega
  have h25 : ∀ i, i < 26 → 16 ≤ i → nmB i ∉ keysM (withoutM (stB 16) (nmB k)) := fun i hi hi2 h => by
    have := (stB_mem (n := 16) (by omega) hi).1 (((without_keys _).1 h).1)
    omega
  refine ⟨_, _, _, put_known (e := enB k 2) (enB_right (by omega) (by omega) (by omega)) hin, by simp [enB], without_put, put_room (enB_right (by omega) (by omega) (by omega)) (by show (withoutM (stB 16) (nmB k)).length < 16; omega), ?_, ?_, ?_, h3, ?_⟩
  · refine put_more (by omega) ?_ ?_
    · rw [List.length_append, show (enB 25 1).1 = nmB 25 from rfl, show (enB k 2).1 = nmB k from rfl, without_out _ _ (h25 25 (by omega) (by omega)), List.length_singleton]
      show 16 ≤ (withoutM (stB 16) (nmB k)).length + 1
      omega
    · intro h
      rcases keys_put.1 h with h | h
      · exact h25 24 (by omega) (by omega) h
      · exact absurd (nmB_inj (by omega) (by omega) h) (by omega)
  · rw [List.length_append, show (enB 25 1).1 = nmB 25 from rfl, show (enB k 2).1 = nmB k from rfl, without_out _ _ (h25 25 (by omega) (by omega)), List.length_singleton]
    show (withoutM (stB 16) (nmB k)).length + 1 = 16
    omega
  · rw [List.length_append, List.length_singleton]
    show (withoutM (stB 16) (nmB k)).length + 1 = 16
    omega
  · exact keys_put.2 (.inr rfl)
/-- No more than 16 are known. -/
theorem put_most {M : Em} (hd : (keysM M).Nodup) (h : M.length ≤ 16) (e : En) : (putE M e).1.length ≤ 16 := by
  unfold putE
  split
  · exact h
  · split
    · exact h
    · rename_i h2
      show (withoutM M e.1 ++ [(e.1, e)]).length ≤ 16
      rw [List.length_append, List.length_singleton]
      by_cases hin : e.1 ∈ keysM M
      · have := without_len_in M e.1 hd hin
        omega
      · have : ¬ 16 ≤ M.length := fun h3 => h2 ⟨hin, h3⟩
        have := without_len M e.1
        omega
theorem put_num (M : Em) (e : En) : 0 ≤ (putE M e).2 ∧ (putE M e).2 ≤ 2 := by
  unfold putE
  split
  · show (0 : Int) ≤ 1 ∧ (1 : Int) ≤ 2; omega
  · split
    · show (0 : Int) ≤ 2 ∧ (2 : Int) ≤ 2; omega
    · show (0 : Int) ≤ 0 ∧ (0 : Int) ≤ 2; omega
/-- What is put of another name leaves an entry. -/
theorem put_keeps {M : Em} {n : List UInt8} {v e : En} (h : (n, v) ∈ M) (hne : e.1 ≠ n) : (n, v) ∈ (putE M e).1 := by
  unfold putE
  split
  · exact h
  · split
    · exact h
    · exact List.mem_append_left _ (List.mem_filter.2 ⟨h, decide_eq_true (fun e2 => hne e2.symm)⟩)
theorem drop_keeps {M : Em} {n k : List UInt8} {v : En} (h : (n, v) ∈ M) (hne : k ≠ n) : (n, v) ∈ withoutM M k :=
  List.mem_filter.2 ⟨h, decide_eq_true (fun e2 => hne e2.symm)⟩
theorem drop_gone (M : Em) (n : List UInt8) : n ∉ keysM (withoutM M n) := fun h => ((without_keys n).1 h).2 rfl
end Go.Proofs.YtejmbabeniekhaaDoor
namespace Go.Proofs.YtejmbabeniekhaaDoor
open Go.RowKit Go.Maps Go.WideMaps

theorem wrap_small (n : Int) (h0 : -9223372036854775808 ≤ n) (h1 : n ≤ 9223372036854775807) : IntKind.i64.wrap n = n := by
  have h : IntKind.i64.wrap n = if 9223372036854775808 ≤ n % 18446744073709551616 then n % 18446744073709551616 - 18446744073709551616 else n % 18446744073709551616 := by
    simp [IntKind.wrap, IntKind.bits, IntKind.signed]
  rw [h]
  split <;> omega

set_option maxRecDepth 10000 in
theorem letter_any (i : Nat) (hi : i < 26) (w : World) : Calls Tryd.prog 29 #[.int .i64 i] w fun e w' => e = .returned (.string ⟨(nmB i).toArray⟩) ∧ w.grownBy w' none := by
  obtain ⟨z, hz⟩ : ∃ z : Int, z = 97 + (i : Int) := ⟨_, rfl⟩
  have hz1 : IntKind.i64.wrap (97 + (i : Int)) = z := by rw [wrap_small _ (by omega) (by omega), hz]
  have hb : bcells (nmB i) = [.int .u8 (z % 256), .int .u8 64, .int .u8 82] := by
    have h1 : ((UInt8.ofNat (97 + i)).toNat : Int) = z % 256 := by rw [UInt8.toNat_ofNat', hz]; omega
    show [Value.int .u8 ((UInt8.ofNat (97 + i)).toNat : Int), .int .u8 64, .int .u8 82] = _
    rw [h1]
  have hr := run_strB byteT Tryd.underlying9 (RB.of_CB (n := 3) (CB.new w 5 (bcells (nmB i))) (by show 3 ≤ maxLen; unfold maxLen; omega) rfl)
  rw [hb] at hr
  have hr2 : (convert 23 9 (.slice (some ⟨w.heap.size, 0, none⟩) 3 3)).run Tryd.prog (w.alloc (.cells #[.int .u8 (z % 256), .int .u8 64, .int .u8 82] 5)) = .ok (strV (nmB i)) (w.alloc (.cells #[.int .u8 (z % 256), .int .u8 64, .int .u8 82] 5)) := hr
  clear hr hb hz hi
  go_enter Tryd.func29, Tryd.ntmps29
  go_wp2
  go_ret
  exact ⟨rfl, grown_alloc w _ none⟩

theorem b64_and15 (n : Int) : bits .and .i64 n 15 = n % 16 := by
  have h127 : (BitVec.ofInt 64 15).toNat = 2 ^ 4 - 1 := by decide
  have key : (BitVec.ofInt 64 n &&& BitVec.ofInt 64 15).toNat = (n % ((2 ^ 64 : Nat) : Int)).toNat % 2 ^ 4 := by
    rw [BitVec.toNat_and, BitVec.toNat_ofInt, h127, Nat.and_two_pow_sub_one_eq_mod]
  show IntKind.i64.wrap ((BitVec.ofInt 64 n &&& BitVec.ofInt 64 15).toNat : Nat) = n % 16
  rw [key, IntKind.wrap_i64]
  omega
theorem b64_and7 (n : Int) : bits .and .i64 n 7 = n % 8 := by
  have h127 : (BitVec.ofInt 64 7).toNat = 2 ^ 3 - 1 := by decide
  have key : (BitVec.ofInt 64 n &&& BitVec.ofInt 64 7).toNat = (n % ((2 ^ 64 : Nat) : Int)).toNat % 2 ^ 3 := by
    rw [BitVec.toNat_and, BitVec.toNat_ofInt, h127, Nat.and_two_pow_sub_one_eq_mod]
  show IntKind.i64.wrap ((BitVec.ofInt 64 n &&& BitVec.ofInt 64 7).toNat : Nat) = n % 8
  rw [key, IntKind.wrap_i64]
  omega

theorem b64_and1 (n : Int) : bits .and .i64 n 1 = n % 2 := by
  have h127 : (BitVec.ofInt 64 1).toNat = 2 ^ 1 - 1 := by decide
  have key : (BitVec.ofInt 64 n &&& BitVec.ofInt 64 1).toNat = (n % ((2 ^ 64 : Nat) : Int)).toNat % 2 ^ 1 := by
    rw [BitVec.toNat_and, BitVec.toNat_ofInt, h127, Nat.and_two_pow_sub_one_eq_mod]
  show IntKind.i64.wrap ((BitVec.ofInt 64 n &&& BitVec.ofInt 64 1).toNat : Nat) = n % 2
  rw [key, IntKind.wrap_i64]
  omega
theorem put_at (e : En) (he : enOk e) (w w0 : World) (hM : ML w0) (hw : w0.grownBy w none) (c b : Nat) (M : Em) (h : BS w c b M) (hlen : M.length ≤ 1000000) (C : Array Value) (hC : C = (enC e).toArray) (M' : Em) (n : Int) (hr : putE M e = (M', n)) :
    Calls Tryd.prog 24 #[.pointer (some ⟨c, 0, none⟩), .agg C] w fun x w' => x = .returned (.int .i64 n) ∧ BS w' c b M' ∧ w.grownBy w' (some b) := by
  subst hC
  have := put_any e he w (hM.below (below_of_none hw)) c b M h hlen
  rw [hr] at this
  exact this

set_option maxRecDepth 10000 in
set_option maxHeartbeats 1000000 in
theorem bspeaks_any (w : World) (hM : ML w) : Calls Tryd.prog 19 #[] w fun e w' => e = .returned (.bool true) ∧ w.grownBy w' none := by
  obtain ⟨e, he⟩ : ∃ e : En, e = (nmB 0, zeros 16, 5, 0, true) := ⟨_, rfl⟩
  have HE := Lib.hid (show enOk e from by rw [he]; exact ⟨by show 3 ≤ 1000; omega, zeros_length 16, by show (-9223372036854775808 : Int) ≤ 5 ∧ (5 : Int) ≤ 9223372036854775807; omega, by show (-9223372036854775808 : Int) ≤ 0 ∧ (0 : Int) ≤ 9223372036854775807; omega⟩)
  have HC := Lib.hid (show (#[.string ⟨#[97, 64, 82]⟩, .int .u8 0, .int .u8 0, .int .u8 0, .int .u8 0, .int .u8 0, .int .u8 0, .int .u8 0, .int .u8 0, .int .u8 0, .int .u8 0, .int .u8 0, .int .u8 0, .int .u8 0, .int .u8 0, .int .u8 0, .int .u8 0, .int .i64 5, .int .i64 0, .bool true] : Array Value) = (enC e).toArray by rw [he]; rfl)
  have HR := Lib.hid (show putE [] e = ([(e.1, e)], 0) by
    have hr : rightE e = true := by rw [he]; unfold rightE; rw [show parses (nmB 0) = true from nmB_parses 0 (by omega)]; rfl
    unfold putE
    rw [hr, if_neg (by simp), if_neg (by simp)]
    rfl)
  have HGET := Lib.hid (show getE [(e.1, e)] (nmB 0) zeroEn false by
    refine ⟨fun v hv hf => ?_, fun v hv hf => ⟨rfl, rfl⟩, fun h => ⟨rfl, rfl⟩⟩
    rw [List.mem_singleton] at hv
    have h2 := congrArg Prod.snd hv
    have h3 : v = e := h2
    rw [h3, he] at hf
    cases hf)
  have HLZ := Lib.hid (enC_length (e := zeroEn) (zeros_length 16))
  have HM := Lib.hid hM
  clear he hM
  go_enter Tryd.func19, Tryd.ntmps19
  go_wp2_with (first
    | (go_at_call 21; refine (bnew_any _).mono ?_; rintro x w1 ⟨rfl, h1, g1⟩; have H1 := Lib.hid h1; have G1 := Lib.hid g1; clear h1 g1)
    | (go_at_call 24; refine (put_at e HE.out _ w HM.out G1.out _ _ _ H1.out (by simp) _ HC.out _ _ HR.out).mono ?_; rintro x w2 ⟨rfl, h2, g2⟩; have H2 := Lib.hid h2; have G2 := Lib.hid (none_new G1.out g2 (Nat.le_refl _)); clear h2 g2)
    | (go_at_call 26; refine (get_any (nmB 0) (by show 3 ≤ 1000; omega) _ _ _ _ H2.out zeroEn false HGET.out).mono ?_; rintro x w3 ⟨rfl, g3⟩; have H3 := Lib.hid (H2.out.none g3); have G3 := Lib.hid (grown_trans' G2.out g3); have TK1 := Lib.hid True.intro; clear g3)
    | (have hx := TK1; clear hx TK1; refine wpList_allocC zeroE_run rfl rfl ?_; have TK2 := Lib.hid True.intro)
    | (have hx := TK2; clear hx TK2; refine wpList_storeC (off := 0) (p := enC zeroEn) aggE.hi rfl (.tmp 3) (.tmp 14) rfl (enV zeroEn) rfl (enC_one zeroEn) (CB.new w3 51 (enC zeroEn)) HLZ.out (by rw [HLZ.out]; omega) (by first | rfl | go_simp) (by first | rfl | go_simp) ?_; intro w4 h4 g4; have G4' := Lib.hid (none_new (grown_alloc w3 (.cells (enC zeroEn).toArray 51) none) g4 (Nat.le_refl _)); have H4 := Lib.hid (H3.out.none G4'.out); have G4 := Lib.hid (grown_trans' G3.out G4'.out); clear h4 g4)
    | (go_at_call 28; refine (list_any _ _ _ _ H4.out (by simp)).mono ?_; rintro x w5 ⟨v, ks, rfl, hk, hv, g5⟩; obtain ⟨A5, c5, hv5, -⟩ := hv.shape; have hkl : ks.length = 1 := by rw [hk.1.length_eq]; rfl
       rw [List.length_map, List.length_map, hkl] at hv5; subst hv5; have G5 := Lib.hid (grown_trans' G4.out g5); clear g5 hv hk hkl))
  go_ret
  exact ⟨rfl, G5.out⟩
end Go.Proofs.YtejmbabeniekhaaDoor
namespace Go.Proofs.YtejmbabeniekhaaDoor
open Go.ChangeShapes Go.WideShapes Go.RowKit Go.Maps Go.WideMaps

/-- What is known of an entry that came in. -/
structure enW (e : En) : Prop where
  lk : e.2.1.length = 16
  li : -9223372036854775808 ≤ e.2.2.1 ∧ e.2.2.1 ≤ 9223372036854775807
  fl : -9223372036854775808 ≤ e.2.2.2.1 ∧ e.2.2.2.1 ≤ 9223372036854775807
theorem enW.ok {e : En} (h : enW e) (hl : e.1.length ≤ 1000) : enOk e := ⟨hl, h.lk, h.li, h.fl⟩
theorem wf64 {n : Int} (h : (Lit.int .i64 n).wf = true) : -9223372036854775808 ≤ n ∧ n ≤ 9223372036854775807 := by
  have h2 := bounds_i64 h
  exact ⟨by omega, by omega⟩
def byteOfB (v : Value) : UInt8 := match v with
  | .int _ n => UInt8.ofNat n.toNat
  | _ => 0
section
variable {H : Type} {enc : TypeId × Value → H} {w : World} {base : Nat} {spare : Nat → Bool} {held : Bool}
theorem arr_of_trodB {P : Program} {t e : TypeId} {n fuel : Nat} {cs : List Value} {x : DataW H × List MemPlace}
    (ht : P.underlying t = some (.array n e)) (he : P.underlying e = some (.int .u8)) (hce : P.cellsOf e = 1) (hlen0 : cs.length = n) (h : DataW.trod enc P w base spare held fuel t cs = some x) :
    ∃ l : List UInt8, cs = bcells l ∧ l.length = n := by
  obtain ⟨xs, m, _, _, hlen, hxl, hg⟩ := DataW.trod_array ht h
  refine ⟨cs.map byteOfB, ?_, by simp [hlen0]⟩
  apply List.ext_getElem
  · simp [bcells]
  · intro i h1 h2
    have hi : i < n := by omega
    have hx := hg i hi
    rw [hce, Nat.mul_one] at hx
    have hd : (cs.drop i).take 1 = [cs[i]] := by
      rw [List.drop_eq_getElem_cons h1, List.take_succ_cons, List.take_zero]
    rw [hd, List.getElem?_eq_getElem (by omega)] at hx
    obtain ⟨k, hk, _, hwf⟩ := DataW.trod_int he hx
    simp only [List.cons.injEq, and_true] at hk
    have hb := bounds_u8 hwf
    have hk2 : (bcells (cs.map byteOfB))[i]'h2 = Value.int .u8 ((byteOfB cs[i]).toNat : Int) := by simp [bcells]
    rw [hk2, hk]
    congr 1
    simp only [byteOfB]
    rw [UInt8.toNat_ofNat']
    omega
theorem drop_stepB (cs : List Value) (a n : Nat) : cs.drop a = (cs.drop a).take n ++ cs.drop (a + n) := by rw [← List.drop_drop, List.take_append_drop]
set_option maxRecDepth 10000 in
theorem entry_of_trod {fuel : Nat} {cs : List Value} {x : DataW H × List MemPlace} (hlen : cs.length = 20) (hf0 : DataW.trod enc Tryd.prog w base spare held fuel 51 cs = some x) : ∃ e : En, cs = enC e ∧ enW e := by
  obtain ⟨xs, n, _, _, _, hxl, hf⟩ := DataW.trod_struct Tryd.underlying51 hf0
  have hCk : Tryd.prog.cellsOf 49 = 16 := by kernel_rfl
  have hC6 : Tryd.prog.cellsOf 2 = 1 := by kernel_rfl
  have hCs : Tryd.prog.cellsOf 9 = 1 := by kernel_rfl
  have hCi : Tryd.prog.cellsOf 3 = 1 := by kernel_rfl
  have hCb : Tryd.prog.cellsOf 4 = 1 := by kernel_rfl
  match xs, hxl with
  | [y0, y1, y2, y3, y4], _ =>
    have h0 := hf 0 _ rfl
    change DataW.trod enc Tryd.prog w base spare held n 9 (List.take (Tryd.prog.cellsOf 9) (List.drop 0 cs)) = some y0 at h0
    rw [hCs] at h0
    obtain ⟨c, e0, _, _⟩ := DataW.trod_string Tryd.underlying9 h0
    have h1 := hf 1 _ rfl
    change DataW.trod enc Tryd.prog w base spare held n 49 (List.take (Tryd.prog.cellsOf 49) (List.drop 1 cs)) = some y1 at h1
    rw [hCk] at h1
    obtain ⟨k, e1, hk⟩ := arr_of_trodB Tryd.underlying49 Tryd.underlying5 (by kernel_rfl) (by rw [List.length_take, List.length_drop, hlen]; rfl) h1
    have h2 := hf 2 _ rfl
    change DataW.trod enc Tryd.prog w base spare held n 2 (List.take (Tryd.prog.cellsOf 2) (List.drop 17 cs)) = some y2 at h2
    rw [hC6] at h2
    obtain ⟨li, e2, _, w2⟩ := DataW.trod_int Tryd.underlying2 h2
    have h3 := hf 3 _ rfl
    change DataW.trod enc Tryd.prog w base spare held n 3 (List.take (Tryd.prog.cellsOf 3) (List.drop 18 cs)) = some y3 at h3
    rw [hCi] at h3
    obtain ⟨fl, e3, _, w3⟩ := DataW.trod_int Tryd.underlying3 h3
    have h4 := hf 4 _ rfl
    change DataW.trod enc Tryd.prog w base spare held n 4 (List.take (Tryd.prog.cellsOf 4) (List.drop 19 cs)) = some y4 at h4
    rw [hCb] at h4
    obtain ⟨of, e4, _⟩ := DataW.trod_bool Tryd.underlying4 h4
    refine ⟨(c.data.toList, k, li, fl, of), ?_, ⟨hk, wf64 w2, wf64 w3⟩⟩
    have hall : cs.drop 0 = [.string c] ++ bcells k ++ [.int .i64 li, .int .i64 fl, .bool of] := by
      rw [drop_stepB cs 0 1, e0, show 0 + 1 = 1 from rfl]
      rw [drop_stepB cs 1 16, e1, show 1 + 16 = 17 from rfl]
      rw [drop_stepB cs 17 1, e2, show 17 + 1 = 18 from rfl]
      rw [drop_stepB cs 18 1, e3, show 18 + 1 = 19 from rfl]
      rw [drop_stepB cs 19 1, e4, show 19 + 1 = 20 from rfl]
      rw [List.drop_eq_nil_of_le (by omega)]
      simp
    rw [List.drop_zero] at hall
    rw [hall]
    rfl
set_option maxRecDepth 10000 in
theorem open_Entry {r : Reach} {b0 : Nat} {v : Value} {d : DataW H} {p : List MemPlace} (hv : Value.okWide Tryd.prog w r b0 51 v) (h : DataW.Trod enc Tryd.prog w base spare held 51 v d p) :
    ∃ e : En, v = .agg (enC e).toArray ∧ enW e := by
  obtain ⟨ca, rfl, hsz⟩ := okWide_struct Tryd.underlying51 hv
  obtain ⟨fuel, hf0⟩ := h
  obtain ⟨xs, n, _, _, hlen, _, _⟩ := DataW.trod_struct Tryd.underlying51 hf0
  simp only [Value.cells] at hf0 hlen
  have hC : Tryd.prog.cellsOf 51 = 20 := by kernel_rfl
  rw [hC] at hlen
  obtain ⟨e, he, hw⟩ := entry_of_trod hlen hf0
  refine ⟨e, ?_, hw⟩
  congr 1
  apply Array.ext'
  rw [he]
abbrev Op9 := Int × En
def op9C (o : Op9) : List Value := [.int .i64 o.1] ++ enC o.2
structure op9W (o : Op9) : Prop where
  k : -9223372036854775808 ≤ o.1 ∧ o.1 ≤ 9223372036854775807
  e : enW o.2
theorem op9C_len {o : Op9} (h : op9W o) : (op9C o).length = 21 := by rw [op9C, List.length_append, enC_length h.e.lk]; rfl
theorem op9C_one (o : Op9) : ∀ u ∈ op9C o, u.oneCell' = true := by
  intro u hu
  rcases List.mem_append.1 hu with hu | hu
  · rw [List.mem_singleton.1 hu]; rfl
  · exact enC_one _ u hu
theorem op9C_k (o : Op9) : (op9C o)[0]? = some (.int .i64 o.1) := rfl
theorem op9C_name (o : Op9) : (op9C o)[1]? = some (.string ⟨o.2.1.toArray⟩) := rfl
theorem op9C_en {o : Op9} (h : op9W o) : ((op9C o).drop 1).take 20 = enC o.2 := by
  show (enC o.2).take 20 = _
  exact List.take_of_length_le (by rw [enC_length h.e.lk]; exact Nat.le_refl _)
set_option maxRecDepth 10000 in
theorem op9_of_trod {fuel : Nat} {cs : List Value} {x : DataW H × List MemPlace} (hlen : cs.length = 21) (hf0 : DataW.trod enc Tryd.prog w base spare held fuel 53 cs = some x) : ∃ o : Op9, cs = op9C o ∧ op9W o := by
  obtain ⟨xs, n, _, _, _, hxl, hf⟩ := DataW.trod_struct Tryd.underlying53 hf0
  have hCi : Tryd.prog.cellsOf 3 = 1 := by kernel_rfl
  have hCe : Tryd.prog.cellsOf 51 = 20 := by kernel_rfl
  match xs, hxl with
  | [y0, y1], _ =>
    have h0 := hf 0 _ rfl
    change DataW.trod enc Tryd.prog w base spare held n 3 (List.take (Tryd.prog.cellsOf 3) (List.drop 0 cs)) = some y0 at h0
    rw [hCi] at h0
    obtain ⟨k, e0, _, w0⟩ := DataW.trod_int Tryd.underlying3 h0
    have h1 := hf 1 _ rfl
    change DataW.trod enc Tryd.prog w base spare held n 51 (List.take (Tryd.prog.cellsOf 51) (List.drop 1 cs)) = some y1 at h1
    rw [hCe] at h1
    obtain ⟨e, e1, w1⟩ := entry_of_trod (by rw [List.length_take, List.length_drop, hlen]; rfl) h1
    refine ⟨(k, e), ?_, ⟨wf64 w0, w1⟩⟩
    have hall : cs.drop 0 = op9C (k, e) := by
      rw [drop_stepB cs 0 1, e0, show 0 + 1 = 1 from rfl]
      rw [drop_stepB cs 1 20, e1, show 1 + 20 = 21 from rfl]
      rw [List.drop_eq_nil_of_le (by omega)]
      simp [op9C]
    rw [List.drop_zero] at hall
    exact hall
set_option maxRecDepth 10000 in
theorem ops9_of_trod {A : Option Addr} {len cap : Nat} {d : DataW H} {p : List MemPlace} (h : DataW.Trod enc Tryd.prog w base spare held 40 (.slice A len cap) d p) :
    ∃ us : List Op9, us.length = len ∧ SR w w.heap.size A 21 (us.map op9C) cap ∧ ∀ u ∈ us, op9W u :=
  SR.of_trod Tryd.underlying40 (by kernel_rfl) (by omega) op9C op9W (fun _ h => op9C_len h) (fun _ _ _ hl hx => op9_of_trod hl hx) h
end
def zeroO9 : List Value := [.int .i64 0] ++ enC zeroEn
theorem zeroO9_length : zeroO9.length = 21 := by rw [zeroO9, List.length_append, enC_length (zeros_length 16)]; rfl
theorem zeroO9_run (w : World) : (zeroValue 53).run Tryd.prog w = .ok (.agg zeroO9.toArray) w := by kernel_rfl
theorem aggO9 : AggT Tryd.prog 53 21 := ⟨fun _ => by kernel_rfl, by kernel_rfl⟩

def longO9 (o : Op9) : Bool := decide (300 < o.2.1.length)
def greatO9 (l : List Op9) : Bool := decide (60 < l.length) || l.any longO9
theorem any_take9 {l : List Op9} {k : Nat} (hk : k < l.length) : (l.take (k + 1)).any longO9 = ((l.take k).any longO9 || longO9 l[k]) := by
  rw [List.take_succ_eq_append_getElem hk, List.any_append]
  simp
theorem great_len9 {l : List Op9} (h : greatO9 l = false) : l.length ≤ 60 := by
  unfold greatO9 at h
  rw [Bool.or_eq_false_iff] at h
  have := of_decide_eq_false h.1
  omega
theorem great_name9 {l : List Op9} (h : greatO9 l = false) {o : Op9} (ho : o ∈ l) : o.2.1.length ≤ 300 := by
  unfold greatO9 at h
  rw [Bool.or_eq_false_iff] at h
  have h2 := h.2
  rw [List.any_eq_false] at h2
  have := h2 o ho
  unfold longO9 at this
  simp at this
  exact this

set_option maxRecDepth 10000 in
set_option maxHeartbeats 2000000 in
theorem bgreat_any (w : World) (A : Option Addr) (l : List Op9) (n cap B : Nat) (hn : l.length = n) (hA : SR w B A 21 (l.map op9C) cap) (hB : B ≤ w.heap.size) (hl : ∀ o ∈ l, op9W o) :
    Calls Tryd.prog 20 #[.slice A n cap] w fun e w' => e = .returned (.bool (greatO9 l)) ∧ w.grownBy w' none := by
  by_cases h0 : 60 < n
  · have t0 : decide ((60 : Int) < (n : Int)) = true := decide_eq_true (by omega)
    have hg : greatO9 l = true := by unfold greatO9; rw [hn, decide_eq_true h0]; rfl
    rw [hg]
    clear h0 hA hB hl hg hn
    go_enter Tryd.func20, Tryd.ntmps20
    go_wp2
    go_ret
    exact ⟨rfl, World.grownBy.refl _ _⟩
  · have t0 : decide ((60 : Int) < (n : Int)) = false := decide_eq_false (by omega)
    have hg : greatO9 l = l.any longO9 := by unfold greatO9; rw [hn, decide_eq_false h0]; rfl
    rw [hg]
    have HN := Lib.hid hn
    have HA := Lib.hid hA
    have HB := Lib.hid hB
    have HL := Lib.hid hl
    have N0 := Lib.hid h0
    clear h0 hA hB hl hg hn
    go_enter Tryd.func20, Tryd.ntmps20
    go_wp2
    clear t0
    go_loopw [10] (fun v wr => ∃ k : Nat, k ≤ n ∧ v = .int .i64 k ∧ (l.take k).any longO9 = false ∧ w.grownBy wr none) (fun v _ => n - (intOf v).toNat)
    case atStart => exact ⟨0, Nat.zero_le _, rfl, rfl, World.grownBy.refl _ _⟩
    case round =>
      obtain ⟨k, hk, rfl, hany, hW⟩ := hrel
      have HW := Lib.hid hW
      have hn0 := N0.out
      by_cases hlt : k < n
      · obtain ⟨o, ho⟩ : ∃ o, o = l[k]'(by rw [HN.out]; exact hlt) := ⟨_, rfl⟩
        obtain ⟨ab, ao, hAe, hab, hcells⟩ := HA.out.elem (k := k) (by rw [List.length_map, HN.out]; exact hlt)
        have HOW := Lib.hid (show op9W o by rw [ho]; exact HL.out _ (List.getElem_mem _))
        have hce : (l.map op9C)[k]'(by rw [List.length_map, HN.out]; exact hlt) = op9C o := by rw [List.getElem_map, ho]
        rw [hce] at hcells
        have HCELL := Lib.hid (show ∀ j v, (op9C o)[j]? = some v → wr.cell? ⟨ab, ao + 21 * k + j, none⟩ = some v from fun j v hj => ((below_of_none HW.out).cell (p := ⟨ab, _, none⟩) (Nat.lt_of_lt_of_le hab HB.out)).trans (hcells j v hj))
        have HNX := Lib.hid (show (l.take (k + 1)).any longO9 = longO9 o by rw [any_take9 (by rw [HN.out]; exact hlt), hany, ho]; rfl)
        have HMEM := Lib.hid (show o ∈ l by rw [ho]; exact List.getElem_mem _)
        subst hAe
        clear hW hce hcells ho hab hany
        have HB1 := Lib.hid (CB.new wr 53 zeroO9)
        by_cases h300 : 300 < o.2.1.length
        · have d1 : decide ((300 : Int) < (o.2.1.length : Int)) = true := decide_eq_true (by omega)
          have HE := Lib.hid (show l.any longO9 = true from List.any_eq_true.2 ⟨o, HMEM.out, decide_eq_true h300⟩)
          clear h300
          have TK0 := Lib.hid True.intro
          go_wp2_with (first
            | (have hx := TK0; clear hx TK0; refine wpList_loadX (p := op9C o) aggO9 rfl (.tmp 12) rfl (b := ab) (off := ao + 21 * k) HCELL.out (op9C_len HOW.out) (by first | rfl | go_simp) ?_; have TK1 := Lib.hid True.intro)
            | (have hx := TK1; clear hx TK1; refine wpList_allocC zeroO9_run rfl rfl ?_; have TK2 := Lib.hid True.intro)
            | (have hx := TK2; clear hx TK2; refine wpList_storeC (off := 0) (p := op9C o) aggO9.hi rfl (.tmp 4) (.tmp 13) rfl (.agg (op9C o).toArray) rfl (op9C_one o) HB1.out (op9C_len HOW.out) (by rw [zeroO9_length]; omega) (by first | rfl | go_simp) (by first | rfl | go_simp) ?_; intro w2 h2 g2; rw [over_all _ _ (Nat.le_of_eq (by rw [zeroO9_length, op9C_len HOW.out]))] at h2; have q0 := h2.at_ (op9C_name o); have W2 := Lib.hid (none_new (grown_trans' HW.out (grown_alloc wr (.cells zeroO9.toArray 53) none)) g2 HW.out.size); clear h2 g2))
          go_ret
          rw [HE.out]
          exact ⟨rfl, W2.out⟩
        · have d1 : decide ((300 : Int) < (o.2.1.length : Int)) = false := decide_eq_false (by omega)
          have HE := Lib.hid (show longO9 o = false from decide_eq_false h300)
          clear h300
          have TK0 := Lib.hid True.intro
          go_wp2_with (first
            | (have hx := TK0; clear hx TK0; refine wpList_loadX (p := op9C o) aggO9 rfl (.tmp 12) rfl (b := ab) (off := ao + 21 * k) HCELL.out (op9C_len HOW.out) (by first | rfl | go_simp) ?_; have TK1 := Lib.hid True.intro)
            | (have hx := TK1; clear hx TK1; refine wpList_allocC zeroO9_run rfl rfl ?_; have TK2 := Lib.hid True.intro)
            | (have hx := TK2; clear hx TK2; refine wpList_storeC (off := 0) (p := op9C o) aggO9.hi rfl (.tmp 4) (.tmp 13) rfl (.agg (op9C o).toArray) rfl (op9C_one o) HB1.out (op9C_len HOW.out) (by rw [zeroO9_length]; omega) (by first | rfl | go_simp) (by first | rfl | go_simp) ?_; intro w2 h2 g2; rw [over_all _ _ (Nat.le_of_eq (by rw [zeroO9_length, op9C_len HOW.out]))] at h2; have q0 := h2.at_ (op9C_name o); have W2 := Lib.hid (none_new (grown_trans' HW.out (grown_alloc wr (.cells zeroO9.toArray 53) none)) g2 HW.out.size); clear h2 g2))
          go_roundw
          case rel => exact ⟨k + 1, by omega, by go_num, by rw [HNX.out, HE.out], W2.out⟩
          case measure => simp [intOf]; omega
      · have HE := Lib.hid (show l.any longO9 = false by
          rw [show k = n by omega, ← HN.out, List.take_length] at hany
          exact hany)
        clear hW hany
        go_wp2
        go_ret
        rw [HE.out]
        exact ⟨rfl, HW.out⟩
end Go.Proofs.YtejmbabeniekhaaDoor
namespace Go.Proofs.YtejmbabeniekhaaDoor
open Go.RowKit Go.Maps Go.WideMaps

def cellsB (i : Nat) (l : Int) : Array Value := #[.string ⟨(nmB i).toArray⟩, .int .u8 0, .int .u8 0, .int .u8 0, .int .u8 0, .int .u8 0, .int .u8 0, .int .u8 0, .int .u8 0, .int .u8 0, .int .u8 0, .int .u8 0, .int .u8 0, .int .u8 0, .int .u8 0, .int .u8 0, .int .u8 0, .int .i64 l, .int .i64 0, .bool false]
theorem cellsB_eq (i : Nat) (l : Int) : cellsB i l = (enC (enB i l)).toArray := rfl
theorem getB {w : World} {c b : Nat} {M : Em} (h : BS w c b M) {e : En} (he : (e.1, e) ∈ M) (ho : e.2.2.2.2 = false) : getE M e.1 e true :=
  ⟨fun v hv _ => ⟨(key_mem h.2.1.1.1 he hv), rfl⟩, (fun v hv hf => by rw [← key_mem h.2.1.1.1 he hv, ho] at hf; cases hf), fun h2 => absurd (mem_keysM.2 ⟨_, he⟩) h2⟩

set_option maxRecDepth 10000 in
set_option maxHeartbeats 4000000 in
theorem walk_BaseFull (w : World) (hM : ML w) (n : Int) (_ : (Lit.int .i64 n).wf = true) (k : Int) (_ : (Lit.int .i64 k).wf = true) :
    Calls Tryd.prog 7 #[.int .i64 n, .int .i64 k] w fun e w' => e = .returned (.bool true) ∧ Below w.heap.size w w' := by
  have hand := b64_and7 n
  have hkan := b64_and15 k
  obtain ⟨m, hm⟩ : ∃ m : Nat, n % 8 = (m : Int) := ⟨(n % 8).toNat, by omega⟩
  obtain ⟨q, hq⟩ : ∃ q : Nat, k % 16 = (q : Int) := ⟨(k % 16).toNat, by omega⟩
  rw [hm] at hand
  rw [hq] at hkan
  have HAND := Lib.hid hand
  have HKAN := Lib.hid hkan
  have HMB := Lib.hid (show m ≤ 7 by omega)
  have HQB := Lib.hid (show q < 16 by omega)
  have HM := Lib.hid hM
  clear hm hq hM hand hkan
  go_enter Tryd.func7, Tryd.ntmps7
  go_wp2_with (first
    | (go_at_call 19; refine (bspeaks_any _ HM.out).mono ?_; rintro e wa ⟨rfl, ga⟩; have GA := Lib.hid ga; clear ga)
    | (go_at_call 21; refine (bnew_any _).mono ?_; rintro e w1 ⟨rfl, h1, g1⟩; have H1 := Lib.hid h1; have G1 := Lib.hid (grown_trans' GA.out g1); clear h1 g1))
  obtain ⟨c, hc⟩ : ∃ c, wa.heap.size + 1 = c := ⟨_, rfl⟩
  obtain ⟨b, hb⟩ : ∃ b, wa.heap.size = b := ⟨_, rfl⟩
  have HCE := Lib.hid (show w.heap.size ≤ b by have := GA.out.size; omega)
  rw [hc, hb] at H1
  rw [hc]
  clear hc hb
  go_loopw [6] (fun v wr => ∃ i : Nat, i ≤ 16 + m ∧ v = .int .i64 i ∧ BS wr c b (stB (min i 16)) ∧ w.grownBy wr none) (fun v _ => (16 + m) - (intOf v).toNat)
  case atStart => exact ⟨0, Nat.zero_le _, rfl, H1.out, G1.out⟩
  case round =>
    obtain ⟨i, hi, rfl, hS, hW⟩ := hrel
    have HS := Lib.hid hS
    have HW := Lib.hid hW
    have hmb := HMB.out
    have hand := HAND.out
    clear hS hW
    by_cases hlt : i < 16 + m
    · have HI := Lib.hid (show i < 26 by omega)
      have HEO := Lib.hid (enB_ok (i := i) (l := 1) (by omega) (by omega))
      have HST := Lib.hid (show (stB (min i 16)).length ≤ 1000000 by rw [stB_len]; omega)
      by_cases h16 : i < 16
      · have HR := Lib.hid (show putE (stB (min i 16)) (enB i 1) = (stB (min (i + 1) 16), 0) by rw [Nat.min_eq_left (by omega), Nat.min_eq_left (by omega)]; exact put_new h16)
        have d16 : decide ((i : Int) < 16) = true := decide_eq_true (by omega)
        go_wp2_with (first
          | (go_at_call 29; refine (letter_any i HI.out _).mono ?_; rintro e w2 ⟨rfl, g2⟩; have S2 := Lib.hid (HS.out.none g2); have W2 := Lib.hid (grown_trans' HW.out g2); clear g2)
          | (go_at_call 24; refine (put_at (enB i 1) HEO.out _ w HM.out W2.out c b _ S2.out HST.out _ (cellsB_eq i 1) _ _ HR.out).mono ?_; rintro e w3 ⟨rfl, h3, g3⟩; have S3 := Lib.hid h3; have W3 := Lib.hid (none_new W2.out g3 HCE.out); clear h3 g3))
        go_roundw
        case rel => exact ⟨i + 1, by omega, by go_num, S3.out, W3.out⟩
        case measure => simp [intOf]; omega
      · have HR := Lib.hid (show putE (stB (min i 16)) (enB i 1) = (stB (min (i + 1) 16), 2) by rw [Nat.min_eq_right (by omega), Nat.min_eq_right (by omega)]; exact put_more (by omega) (by rw [stB_len]; exact Nat.le_refl _) (fun h => by have := (stB_mem (by omega) (by omega)).1 h; omega))
        have d16 : decide ((i : Int) < 16) = false := decide_eq_false (by omega)
        go_wp2_with (first
          | (go_at_call 29; refine (letter_any i HI.out _).mono ?_; rintro e w2 ⟨rfl, g2⟩; have S2 := Lib.hid (HS.out.none g2); have W2 := Lib.hid (grown_trans' HW.out g2); clear g2)
          | (go_at_call 24; refine (put_at (enB i 1) HEO.out _ w HM.out W2.out c b _ S2.out HST.out _ (cellsB_eq i 1) _ _ HR.out).mono ?_; rintro e w3 ⟨rfl, h3, g3⟩; have S3 := Lib.hid h3; have W3 := Lib.hid (none_new W2.out g3 HCE.out); clear h3 g3))
        go_roundw
        case rel => exact ⟨i + 1, by omega, by go_num, S3.out, W3.out⟩
        case measure => simp [intOf]; omega
    · have hge : ¬ i < 16 + m := hlt
      have S0 := Lib.hid (show BS wr c b (stB 16) by have := HS.out; rwa [Nat.min_eq_right (by omega)] at this)
      obtain ⟨M2, M3, M4, r1, hin, r2, r3, r4, l4, l2, l3, hk2⟩ := full_end HQB.out
      have R1 := Lib.hid r1; have HIN := Lib.hid hin; have R2 := Lib.hid r2; have R3 := Lib.hid r3; have R4 := Lib.hid r4; have L4 := Lib.hid l4; have L2 := Lib.hid l2; have L3 := Lib.hid l3; have HK2 := Lib.hid hk2
      have HQ26 := Lib.hid (show q < 26 by have := HQB.out; omega)
      have HEQ := Lib.hid (enB_ok (i := q) (l := 2) (by omega) (by omega))
      have HE25 := Lib.hid (enB_ok (i := 25) (l := 1) (by omega) (by omega))
      have HE24 := Lib.hid (enB_ok (i := 24) (l := 1) (by omega) (by omega))
      have HLQ := Lib.hid (enC_length (e := enB q 2) (zeros_length 16))
      have HLZ := Lib.hid (enC_length (e := zeroEn) (zeros_length 16))
      have hkan := HKAN.out
      clear r1 hin r2 r3 r4 l4 l2 l3 hk2 HS
      go_wp2_with (first
        | (go_at_call 29; refine (letter_any q HQ26.out _).mono ?_; rintro e w2 ⟨rfl, g2⟩; have S2 := Lib.hid (S0.out.none g2); have W2 := Lib.hid (grown_trans' HW.out g2); have TK0 := Lib.hid True.intro; clear g2)
        | (go_at_call 24; have hx := TK0; clear hx TK0; refine (put_at (enB q 2) HEQ.out _ w HM.out W2.out c b _ S2.out (by rw [stB_len]; omega) _ (cellsB_eq q 2) _ _ R1.out).mono ?_; rintro e w3 ⟨rfl, h3, g3⟩; have S3 := Lib.hid h3; have W3 := Lib.hid (none_new W2.out g3 HCE.out); clear h3 g3)
        | (go_at_call 26; refine (get_any (nmB q) (by show 3 ≤ 1000; omega) _ _ _ _ S3.out (enB q 2) true (getB (e := enB q 2) S3.out HIN.out rfl)).mono ?_; rintro x w4 ⟨rfl, g4⟩; have S4 := Lib.hid (S3.out.none g4); have W4 := Lib.hid (grown_trans' W3.out g4); have TK1 := Lib.hid True.intro; clear g4)
        | (have hx := TK1; clear hx TK1; refine wpList_allocC zeroE_run rfl rfl ?_; have TK2 := Lib.hid True.intro)
        | (have hx := TK2; clear hx TK2; refine wpList_storeC (off := 0) (p := enC (enB q 2)) aggE.hi rfl (.tmp 9) (.tmp 44) rfl (enV (enB q 2)) rfl (enC_one _) (CB.new w4 51 (enC zeroEn)) HLQ.out (by rw [HLZ.out]; omega) (by first | rfl | go_simp) (by first | rfl | go_simp) ?_; intro w5 h5 g5; rw [over_all _ _ (Nat.le_of_eq (by rw [HLZ.out, HLQ.out]))] at h5; have G5' := Lib.hid (none_new (grown_alloc w4 (.cells (enC zeroEn).toArray 51) none) g5 (Nat.le_refl _)); have S5 := Lib.hid (S4.out.none G5'.out); have W5 := Lib.hid (grown_trans' W4.out G5'.out); have B5 := Lib.hid h5; clear h5 g5)
        | (go_at_call 22; refine (drop_any (nmB q) (by show 3 ≤ 1000; omega) _ _ _ _ S5.out true ⟨fun _ => HK2.out, fun _ => rfl⟩).mono ?_; rintro x w6 ⟨rfl, h6, g6⟩; rw [R2.out] at h6; have S6 := Lib.hid h6; have W6 := Lib.hid (none_new W5.out g6 HCE.out); have p6 := (B5.out.grown g6 (fun e => by have := S4.out.lt; omega)).at_ (enC_life (e := enB q 2) (zeros_length 16)); have TK3 := Lib.hid True.intro; clear h6 g6)
        | (go_at_call 24; have hx := TK3; clear hx TK3; refine (put_at (enB 25 1) HE25.out _ w HM.out W6.out c b _ S6.out (by rw [L3.out]; omega) _ (cellsB_eq 25 1) _ _ R3.out).mono ?_; rintro e w7 ⟨rfl, h7, g7⟩; have S7 := Lib.hid h7; have W7 := Lib.hid (none_new W6.out g7 HCE.out); have TK4 := Lib.hid True.intro; clear h7 g7)
        | (go_at_call 24; have hx := TK4; clear hx TK4; refine (put_at (enB 24 1) HE24.out _ w HM.out W7.out c b _ S7.out (by rw [L4.out]; omega) _ (cellsB_eq 24 1) _ _ R4.out).mono ?_; rintro e w8 ⟨rfl, h8, g8⟩; have S8 := Lib.hid h8; have W8 := Lib.hid (none_new W7.out g8 HCE.out); clear h8 g8)
        | (go_at_call 28; refine (list_any _ _ _ _ S8.out (by rw [L4.out]; omega)).mono ?_; rintro x w9 ⟨v, ks, rfl, hk, hv, g9⟩; obtain ⟨A9, c9, hv9, -⟩ := hv.shape; have hkl : ks.length = 16 := by (rw [hk.1.length_eq]; unfold keysM; rw [List.length_map]; exact L4.out)
           rw [List.length_map, List.length_map, hkl] at hv9; subst hv9; have W9 := Lib.hid (grown_trans' W8.out g9); clear g9 hv hk hkl))
      go_ret
      exact ⟨rfl, below_of_none W9.out⟩
end Go.Proofs.YtejmbabeniekhaaDoor
namespace Go.Proofs.YtejmbabeniekhaaDoor
open Go.RowKit Go.Maps Go.WideMaps

theorem ba_beqB (x y : List UInt8) : ((⟨x.toArray⟩ : ByteArray) == ⟨y.toArray⟩) = decide (x = y) := by
  show (x.toArray == y.toArray) = decide (x = y)
  rw [Bool.eq_iff_iff, decide_eq_true_iff]
  simp
def qEn (x y : En) (f : Field) : Bool := match f.offset with
  | 0 => decide (x.1 = y.1)
  | 1 => decide (x.2.1 = y.2.1)
  | 17 => decide (x.2.2.1 = y.2.2.1)
  | 18 => decide (x.2.2.2.1 = y.2.2.2.1)
  | _ => decide (x.2.2.2.2 = y.2.2.2.2)
theorem sz8B : (Tryd.prog.info? 5).map (·.size) = some 1 := by kernel_rfl
theorem aggKB : AggT Tryd.prog 49 16 := ⟨fun _ => by kernel_rfl, by kernel_rfl⟩
theorem enC_key {u : En} (h : enW u) : ((enC u).drop 1).take 16 = bcells u.2.1 := by
  show (bcells u.2.1 ++ [Value.int .i64 u.2.2.1, .int .i64 u.2.2.2.1, .bool u.2.2.2.2]).take 16 = _
  exact List.take_left' (by rw [bcells_length, h.lk])
set_option maxRecDepth 10000 in
theorem run_eqEn (x y : En) (hx : enW x) (hy : enW y) (w : World) : (Op.equalIn 10000 51 (.agg (enC x).toArray) (.agg (enC y).toArray)).run Tryd.prog w = .ok (decide (x = y)) w := by
  have hs := run_structE Tryd.underlying51 (by kernel_rfl) 9999 (enC x).toArray (enC y).toArray (qEn x y) (fun f hf => by
    simp only [List.mem_cons, List.not_mem_nil, or_false] at hf
    rcases hf with rfl | rfl | rfl | rfl | rfl
    · exact ⟨by decide, _, _, run_partXe (by intro w; kernel_rfl) (enC_name x), run_partXe (by intro w; kernel_rfl) (enC_name y), fun w => by rw [run_eqS Tryd.underlying9, ba_beqB]; rfl⟩
    · exact ⟨by decide, _, _, run_partAe (n := 16) aggKB (enC_key hx), run_partAe (n := 16) aggKB (enC_key hy), fun w => by
        have := run_arrB Tryd.underlying49 sz8B Tryd.underlying5 hx.lk hy.lk 9997 w
        rw [this]
        congr 1
        show (x.2.1 == y.2.1) = decide (x.2.1 = y.2.1)
        rw [Bool.eq_iff_iff, beq_iff_eq, decide_eq_true_iff]⟩
    · exact ⟨by decide, _, _, run_partXe (by intro w; kernel_rfl) (enC_life hx.lk), run_partXe (by intro w; kernel_rfl) (enC_life hy.lk), fun w => by rw [run_eqI Tryd.underlying2]; rfl⟩
    · exact ⟨by decide, _, _, run_partXe (by intro w; kernel_rfl) (enC_flags hx.lk), run_partXe (by intro w; kernel_rfl) (enC_flags hy.lk), fun w => by rw [run_eqI Tryd.underlying3]; rfl⟩
    · exact ⟨by decide, _, _, run_partXe (by intro w; kernel_rfl) (enC_off hx.lk), run_partXe (by intro w; kernel_rfl) (enC_off hy.lk), fun w => by
        rw [run_eqBo Tryd.underlying4]
        congr 1⟩) w
  rw [hs]
  congr 1
  rw [Bool.eq_iff_iff, decide_eq_true_iff]
  obtain ⟨x1, x2, x3, x4, x5⟩ := x
  obtain ⟨y1, y2, y3, y4, y5⟩ := y
  show ((decide (x1 = y1) && (decide (x2 = y2) && (decide (x3 = y3) && (decide (x4 = y4) && (decide (x5 = y5) && true))))) = true) ↔ _
  simp
theorem run_eqlB (t : TypeId) (A B : Array Value) (w : World) : (binOp .eql t (.agg A) (.agg B)).run Tryd.prog w = ((Op.equalIn 10000 t (.agg A) (.agg B)).run Tryd.prog w).andThen fun q w' => .ok (.bool q) w' := by
  simp [binOp, Op.equal, Op.maxDepth]
theorem run_eqlE (x y : En) (hx : enW x) (hy : enW y) (w : World) : (binOp .eql 51 (.agg (enC x).toArray) (.agg (enC y).toArray)).run Tryd.prog w = .ok (.bool (decide (x = y))) w := by
  rw [run_eqlB, run_eqEn x y hx hy w]; rfl
theorem enOk.w {e : En} (h : enOk e) : enW e := ⟨h.lk, h.li, h.fl⟩
theorem getB_off {w : World} {c b : Nat} {M : Em} (h : BS w c b M) {e : En} (he : (e.1, e) ∈ M) (ho : e.2.2.2.2 = true) : getE M e.1 zeroEn false :=
  ⟨(fun v hv hf => by rw [← key_mem h.2.1.1.1 he hv, ho] at hf; cases hf), fun _ _ _ => ⟨rfl, rfl⟩, fun _ => ⟨rfl, rfl⟩⟩

set_option maxRecDepth 10000 in
set_option maxHeartbeats 1000000 in
theorem last_great (w : World) (hM : ML w) (e : En) (A : Option Addr) (l : List Op9) (n cap : Nat) (hn : l.length = n) (hA : SR w w.heap.size A 21 (l.map op9C) cap) (hl : ∀ o ∈ l, op9W o) (hg : greatO9 l = true ∨ 300 < e.1.length) :
    Calls Tryd.prog 6 #[.agg (enC e).toArray, .slice A n cap] w fun x w' => x = .returned (.bool true) ∧ w.grownBy w' none := by
  have HM1 := Lib.hid (show ML (w.alloc (.cells (enC e).toArray 51)) from hM.below ((Below.refl _ _).alloc (Nat.le_refl _) _))
  have HG0 := Lib.hid (grown_alloc w (.cells (enC e).toArray 51) none)
  have HB0 := Lib.hid (CB.new w 51 (enC e))
  have HN := Lib.hid hn
  have HA := Lib.hid hA
  have HL := Lib.hid hl
  have TK0 := Lib.hid True.intro
  obtain ⟨G, hG⟩ : ∃ G, G = greatO9 l := ⟨_, rfl⟩
  have HGE := Lib.hid hG
  rw [← hG] at hg
  clear hM hn hA hl hG
  cases G with
  | true =>
    clear hg
    go_enter Tryd.func6, Tryd.ntmps6
    go_wp2_with (first
      | (go_at_call 19; have hx := TK0; clear hx TK0; refine (bspeaks_any _ HM1.out).mono ?_; rintro x wa ⟨rfl, ga⟩; have GA := Lib.hid (grown_trans' HG0.out ga); clear ga)
      | (go_at_call 20; refine (bgreat_any _ A l n cap w.heap.size HN.out (HA.out.made GA.out (Nat.le_refl _)) GA.out.size HL.out).mono ?_; rintro x wb ⟨rfl, gb⟩; rw [← HGE.out]; have GB := Lib.hid (grown_trans' GA.out gb); clear gb))
    go_ret
    exact ⟨rfl, GB.out⟩
  | false =>
    have d1 : decide ((300 : Int) < (e.1.length : Int)) = true := decide_eq_true (by have := hg.resolve_left (by simp); omega)
    clear hg
    go_enter Tryd.func6, Tryd.ntmps6
    go_wp2_with (first
      | (go_at_call 19; have hx := TK0; clear hx TK0; refine (bspeaks_any _ HM1.out).mono ?_; rintro x wa ⟨rfl, ga⟩; have GA := Lib.hid (grown_trans' HG0.out ga); have BA := Lib.hid (HB0.out.kept ga); clear ga)
      | (go_at_call 20; refine (bgreat_any _ A l n cap w.heap.size HN.out (HA.out.made GA.out (Nat.le_refl _)) GA.out.size HL.out).mono ?_; rintro x wb ⟨rfl, gb⟩; rw [← HGE.out]; have GB := Lib.hid (grown_trans' GA.out gb); have q0 := (BA.out.kept gb).at_ (enC_name e); clear gb))
    go_ret
    exact ⟨rfl, GB.out⟩
set_option maxRecDepth 10000 in
set_option maxHeartbeats 2000000 in
theorem last_wrong (w : World) (hM : ML w) (e : En) (he : enW e) (A : Option Addr) (l : List Op9) (n cap : Nat) (hn : l.length = n) (hA : SR w w.heap.size A 21 (l.map op9C) cap) (hl : ∀ o ∈ l, op9W o) (hg : greatO9 l = false) (hln : e.1.length ≤ 300) (hr : rightE e = false) :
    Calls Tryd.prog 6 #[.agg (enC e).toArray, .slice A n cap] w fun x w' => x = .returned (.bool true) ∧ w.grownBy w' none := by
  have HM := Lib.hid hM
  have HM1 := Lib.hid (show ML (w.alloc (.cells (enC e).toArray 51)) from hM.below ((Below.refl _ _).alloc (Nat.le_refl _) _))
  have HG0 := Lib.hid (grown_alloc w (.cells (enC e).toArray 51) none)
  have HB0 := Lib.hid (CB.new w 51 (enC e))
  have HN := Lib.hid hn
  have HA := Lib.hid hA
  have HL := Lib.hid hl
  have HGE := Lib.hid hg
  have HEO := Lib.hid (he.ok (by omega))
  have HLE := Lib.hid (enC_length he.lk)
  have HLZ := Lib.hid (enC_length (e := zeroEn) (zeros_length 16))
  have HEN := Lib.hid hln
  have TK0 := Lib.hid True.intro
  have HR := Lib.hid (show putE [] e = ([], 1) by unfold putE; rw [hr, if_pos rfl])
  have d1 : decide ((300 : Int) < (e.1.length : Int)) = false := decide_eq_false (by omega)
  have HGET := Lib.hid (show getE [] e.1 zeroEn false from ⟨(fun v hv _ => by cases hv), (fun v hv _ => by cases hv), fun _ => ⟨rfl, rfl⟩⟩)
  clear hM hn hA hl hg hln hr he
  go_enter Tryd.func6, Tryd.ntmps6
  go_wp2_with (first
    | (go_at_call 19; have hx := TK0; clear hx TK0; refine (bspeaks_any _ HM1.out).mono ?_; rintro x wa ⟨rfl, ga⟩; have GA := Lib.hid (grown_trans' HG0.out ga); have BA := Lib.hid (HB0.out.kept ga); clear ga)
    | (go_at_call 20; refine (bgreat_any _ A l n cap w.heap.size HN.out (HA.out.made GA.out (Nat.le_refl _)) GA.out.size HL.out).mono ?_; rintro x wb ⟨rfl, gb⟩; rw [HGE.out]; have GB := Lib.hid (grown_trans' GA.out gb); have BB1 := Lib.hid (BA.out.kept gb); have q0 := BB1.out.at_ (enC_name e); clear gb)
    | (go_at_call 21; refine (bnew_any _).mono ?_; rintro x w1 ⟨rfl, h1, g1⟩; have H1 := Lib.hid h1; have G1 := Lib.hid (grown_trans' GB.out g1); have B1 := Lib.hid (BB1.out.kept g1); have HNE := Lib.hid (show w.heap.size ≠ wb.heap.size ∧ w.heap.size < wb.heap.size by have h2 := BB1.out.lt; omega); have TK1 := Lib.hid True.intro; clear h1 g1 q0)
    | (have hx := TK1; clear hx TK1; refine wpList_loadC (off := 0) (p := enC e) aggE rfl (.tmp 2) rfl B1.out (take_all HLE.out) (by rw [HLE.out]; omega) (by first | rfl | go_simp) ?_; have TK2 := Lib.hid True.intro)
    | (go_at_call 24; have hx := TK2; clear hx TK2; refine (put_at e HEO.out _ w HM.out G1.out _ _ _ H1.out (by simp) _ rfl _ _ HR.out).mono ?_; rintro x w2 ⟨rfl, h2, g2⟩; have H2 := Lib.hid h2; have G2 := Lib.hid (none_new G1.out g2 GB.out.size); have B2 := Lib.hid (B1.out.grown g2 HNE.out.1); have q1 := B2.out.at_ (enC_name e); have q2 := B2.out.at_ (enC_off (e := e) HEO.out.lk); clear h2 g2)
    | (go_at_call 26; refine (get_any e.1 (by have := HEN.out; omega) _ _ _ _ H2.out zeroEn false HGET.out).mono ?_; rintro x w3 ⟨rfl, g3⟩; have H3 := Lib.hid (H2.out.none g3); have G3 := Lib.hid (grown_trans' G2.out g3); have TK3 := Lib.hid True.intro; clear g3)
    | (have hx := TK3; clear hx TK3; refine wpList_allocC zeroE_run rfl rfl ?_; have TK4 := Lib.hid True.intro)
    | (have hx := TK4; clear hx TK4; refine wpList_storeC (off := 0) (p := enC zeroEn) aggE.hi rfl (.tmp 6) (.tmp 34) rfl (enV zeroEn) rfl (enC_one zeroEn) (CB.new w3 51 (enC zeroEn)) HLZ.out (by rw [HLZ.out]; omega) (by first | rfl | go_simp) (by first | rfl | go_simp) ?_; intro w4 h4 g4; have G4' := Lib.hid (none_new (grown_alloc w3 (.cells (enC zeroEn).toArray 51) none) g4 (Nat.le_refl _)); have H4 := Lib.hid (H3.out.none G4'.out); have G4 := Lib.hid (grown_trans' G3.out G4'.out); clear h4 g4)
    | (go_at_call 28; refine (list_any _ _ _ _ H4.out (by simp)).mono ?_; rintro x w5 ⟨v, ks, rfl, hk, hv, g5⟩; obtain ⟨A5, c5, hv5, -⟩ := hv.shape; have hkl : ks.length = 0 := by (rw [hk.1.length_eq]; rfl)
       rw [List.length_map, List.length_map, hkl] at hv5; subst hv5; have G5 := Lib.hid (grown_trans' G4.out g5); clear g5 hv hk hkl))
  go_ret
  exact ⟨rfl, G5.out⟩

set_option maxRecDepth 10000 in
set_option maxHeartbeats 4000000 in
theorem last_right (w : World) (hM : ML w) (e : En) (he : enW e) (A : Option Addr) (l : List Op9) (n cap : Nat) (hn : l.length = n) (hA : SR w w.heap.size A 21 (l.map op9C) cap) (hl : ∀ o ∈ l, op9W o) (hg : greatO9 l = false) (hln : e.1.length ≤ 300) (hr : rightE e = true) :
    Calls Tryd.prog 6 #[.agg (enC e).toArray, .slice A n cap] w fun x w' => x = .returned (.bool true) ∧ w.grownBy w' none := by
  have HM := Lib.hid hM
  have HM1 := Lib.hid (show ML (w.alloc (.cells (enC e).toArray 51)) from hM.below ((Below.refl _ _).alloc (Nat.le_refl _) _))
  have HG0 := Lib.hid (grown_alloc w (.cells (enC e).toArray 51) none)
  have HB0 := Lib.hid (CB.new w 51 (enC e))
  have HN := Lib.hid hn
  have HA := Lib.hid hA
  have HL := Lib.hid hl
  have HGE := Lib.hid hg
  have HEO := Lib.hid (he.ok (by omega))
  have HLE := Lib.hid (enC_length he.lk)
  have HLZ := Lib.hid (enC_length (e := zeroEn) (zeros_length 16))
  have HEN := Lib.hid hln
  have TK0 := Lib.hid True.intro
  have HR := Lib.hid (show putE [] e = ([(e.1, e)], 0) by unfold putE; rw [hr, if_neg (by simp), if_neg (by simp)]; rfl)
  have d1 : decide ((300 : Int) < (e.1.length : Int)) = false := decide_eq_false (by omega)
  have N0 := Lib.hid (show n ≤ 60 by rw [← hn]; exact great_len9 hg)
  have HEQ := Lib.hid (show ∀ w, (binOp .eql 51 (.agg (enC e).toArray) (.agg (enC e).toArray)).run Tryd.prog w = .ok (.bool true) w from fun w => by rw [run_eqlE e e he he w, decide_eq_true rfl])
  clear hM hn hA hl hg hln hr he
  go_enter Tryd.func6, Tryd.ntmps6
  go_wp2_with (first
    | (go_at_call 19; have hx := TK0; clear hx TK0; refine (bspeaks_any _ HM1.out).mono ?_; rintro x wa ⟨rfl, ga⟩; have GA := Lib.hid (grown_trans' HG0.out ga); have BA := Lib.hid (HB0.out.kept ga); clear ga)
    | (go_at_call 20; refine (bgreat_any _ A l n cap w.heap.size HN.out (HA.out.made GA.out (Nat.le_refl _)) GA.out.size HL.out).mono ?_; rintro x wb ⟨rfl, gb⟩; rw [HGE.out]; have GB := Lib.hid (grown_trans' GA.out gb); have BB1 := Lib.hid (BA.out.kept gb); have q0 := BB1.out.at_ (enC_name e); clear gb)
    | (go_at_call 21; refine (bnew_any _).mono ?_; rintro x w1 ⟨rfl, h1, g1⟩; have H1 := Lib.hid h1; have G1 := Lib.hid (grown_trans' GB.out g1); have B1 := Lib.hid (BB1.out.kept g1); have HNE := Lib.hid (show w.heap.size ≠ wb.heap.size ∧ w.heap.size < wb.heap.size by have h2 := BB1.out.lt; omega); have TK1 := Lib.hid True.intro; clear h1 g1 q0)
    | (have hx := TK1; clear hx TK1; refine wpList_loadC (off := 0) (p := enC e) aggE rfl (.tmp 2) rfl B1.out (take_all HLE.out) (by rw [HLE.out]; omega) (by first | rfl | go_simp) ?_; have TK2 := Lib.hid True.intro)
    | (go_at_call 24; have hx := TK2; clear hx TK2; refine (put_at e HEO.out _ w HM.out G1.out _ _ _ H1.out (by simp) _ rfl _ _ HR.out).mono ?_; rintro x w2 ⟨rfl, h2, g2⟩; have H2 := Lib.hid h2; have G2 := Lib.hid (none_new G1.out g2 GB.out.size); have B2 := Lib.hid (B1.out.grown g2 HNE.out.1); have q1 := B2.out.at_ (enC_name e); have q2 := B2.out.at_ (enC_off (e := e) HEO.out.lk); clear h2 g2))
  clear d1 q1 q2
  obtain ⟨c, hc⟩ : ∃ c, wb.heap.size + 1 = c := ⟨_, rfl⟩
  obtain ⟨b, hb⟩ : ∃ b, wb.heap.size = b := ⟨_, rfl⟩
  obtain ⟨g0, hg0⟩ : ∃ g0, w.heap.size = g0 := ⟨_, rfl⟩
  have HCE := Lib.hid (show w.heap.size ≤ b ∧ g0 ≠ b ∧ g0 < b ∧ c = b + 1 by have h1 := GB.out.size; have h2 := HNE.out; omega)
  rw [hc, hb] at H2
  rw [hg0] at B2
  rw [hc, hg0]
  clear hc hb hg0
  go_loopw [46] (fun v wr => ∃ (k : Nat) (M : Em), k ≤ n ∧ v = .int .i64 k ∧ BS wr c b M ∧ (e.1, e) ∈ M ∧ M.length ≤ 16 ∧ CB wr g0 51 (enC e) ∧ w.grownBy wr none) (fun v _ => n - (intOf v).toNat)
  case atStart => exact ⟨0, _, Nat.zero_le _, rfl, H2.out, by simp, by simp, B2.out, G2.out⟩
  case round =>
    obtain ⟨k, M, hk, rfl, hS, hin, hlen, hB, hW⟩ := hrel
    have HS := Lib.hid hS
    have HIN := Lib.hid hin
    have HLEN := Lib.hid hlen
    have HB := Lib.hid hB
    have HW := Lib.hid hW
    have hn0 := N0.out
    by_cases hlt : k < n
    · obtain ⟨o, ho⟩ : ∃ o, o = l[k]'(by rw [HN.out]; exact hlt) := ⟨_, rfl⟩
      obtain ⟨ab, ao, hAe, hab, hcells⟩ := HA.out.elem (k := k) (by rw [List.length_map, HN.out]; exact hlt)
      have HOW := Lib.hid (show op9W o by rw [ho]; exact HL.out _ (List.getElem_mem _))
      have HON := Lib.hid (show o.2.1.length ≤ 300 from great_name9 HGE.out (by rw [ho]; exact List.getElem_mem _))
      have hce : (l.map op9C)[k]'(by rw [List.length_map, HN.out]; exact hlt) = op9C o := by rw [List.getElem_map, ho]
      rw [hce] at hcells
      have HCELL := Lib.hid (show ∀ j v, (op9C o)[j]? = some v → wr.cell? ⟨ab, ao + 21 * k + j, none⟩ = some v from fun j v hj => ((below_of_none HW.out).cell (p := ⟨ab, _, none⟩) hab).trans (hcells j v hj))
      have HLO := Lib.hid (enC_length HOW.out.e.lk)
      have HOO := Lib.hid (HOW.out.e.ok (by have := HON.out; omega))
      have qe := hB.at_ (enC_name e)
      have HGZ := Lib.hid (show g0 ≠ wr.heap.size from fun e => by have := hB.lt; omega)
      have TK5 := Lib.hid True.intro
      subst hAe
      clear hce hcells ho hab hS hin hlen hB hW
      have HB1 := Lib.hid (CB.new wr 53 zeroO9)
      by_cases hq : o.2.1 = e.1
      · have HQ := Lib.hid hq
        clear hq
        go_wp2_with (first
          | (have hx := TK5; clear hx TK5; refine wpList_loadX (p := op9C o) aggO9 rfl (.tmp 48) rfl (b := ab) (off := ao + 21 * k) HCELL.out (op9C_len HOW.out) (by first | rfl | go_simp) ?_; have TK6 := Lib.hid True.intro)
          | (have hx := TK6; clear hx TK6; refine wpList_allocC zeroO9_run rfl rfl ?_; have TK7 := Lib.hid True.intro)
          | (have hx := TK7; clear hx TK7; refine wpList_storeC (off := 0) (p := op9C o) aggO9.hi rfl (.tmp 9) (.tmp 49) rfl (.agg (op9C o).toArray) rfl (op9C_one o) HB1.out (op9C_len HOW.out) (by rw [zeroO9_length]; omega) (by first | rfl | go_simp) (by first | rfl | go_simp) ?_; intro w3 h3 g3; rw [over_all _ _ (Nat.le_of_eq (by rw [zeroO9_length, op9C_len HOW.out]))] at h3; have O3 := Lib.hid h3; have W3' := Lib.hid (none_new (grown_alloc wr (.cells zeroO9.toArray 53) none) g3 (Nat.le_refl _)); have W2 := Lib.hid (grown_trans' HW.out W3'.out); have S2 := Lib.hid (HS.out.none W3'.out); have B3 := Lib.hid (HB.out.kept W3'.out); have q0 := h3.at_ (op9C_name o); have qk := h3.at_ (op9C_k o); have qe := B3.out.at_ (enC_name e); rw [HQ.out] at q0; clear h3 g3))
        go_roundw
        case rel => exact ⟨k + 1, M, by omega, by go_num, S2.out, HIN.out, HLEN.out, B3.out, W2.out⟩
        case measure => simp [intOf]; omega
      · have HNQ := Lib.hid hq
        have hqs : (o.2.1 == e.1) = false := beq_eq_false_iff_ne.2 hq
        have hand := b64_and1 o.1
        clear hq
        rcases (show o.1 % 2 = 0 ∨ o.1 % 2 = 1 by omega) with h2 | h2
        · rw [h2] at hand
          obtain ⟨B, hBk⟩ : ∃ B : Bool, B = true ↔ o.2.1 ∈ keysM M := ⟨decide (o.2.1 ∈ keysM M), decide_eq_true_iff⟩
          have HBK := Lib.hid hBk
          clear h2 hBk
          go_wp2_with (first
            | (have hx := TK5; clear hx TK5; refine wpList_loadX (p := op9C o) aggO9 rfl (.tmp 48) rfl (b := ab) (off := ao + 21 * k) HCELL.out (op9C_len HOW.out) (by first | rfl | go_simp) ?_; have TK6 := Lib.hid True.intro)
            | (have hx := TK6; clear hx TK6; refine wpList_allocC zeroO9_run rfl rfl ?_; have TK7 := Lib.hid True.intro)
            | (have hx := TK7; clear hx TK7; refine wpList_storeC (off := 0) (p := op9C o) aggO9.hi rfl (.tmp 9) (.tmp 49) rfl (.agg (op9C o).toArray) rfl (op9C_one o) HB1.out (op9C_len HOW.out) (by rw [zeroO9_length]; omega) (by first | rfl | go_simp) (by first | rfl | go_simp) ?_; intro w3 h3 g3; rw [over_all _ _ (Nat.le_of_eq (by rw [zeroO9_length, op9C_len HOW.out]))] at h3; have O3 := Lib.hid h3; have W3' := Lib.hid (none_new (grown_alloc wr (.cells zeroO9.toArray 53) none) g3 (Nat.le_refl _)); have W2 := Lib.hid (grown_trans' HW.out W3'.out); have S2 := Lib.hid (HS.out.none W3'.out); have B3 := Lib.hid (HB.out.kept W3'.out); have q0 := h3.at_ (op9C_name o); have qk := h3.at_ (op9C_k o); have qe := B3.out.at_ (enC_name e); clear h3 g3)
            | (go_at_call 22; refine (drop_any o.2.1 (by have := HON.out; omega) _ _ _ _ S2.out B HBK.out).mono ?_; rintro x w4 ⟨rfl, h4, g4⟩; have S4 := Lib.hid h4; have W4 := Lib.hid (none_new W2.out g4 HCE.out.1); have B4 := Lib.hid (B3.out.grown g4 HCE.out.2.1); clear h4 g4))
          go_roundw
          case rel => exact ⟨k + 1, _, by omega, by go_num, S4.out, drop_keeps HIN.out HNQ.out, Nat.le_trans (without_len _ _) HLEN.out, B4.out, W4.out⟩
          case measure => simp [intOf]; omega
        · rw [h2] at hand
          clear h2
          go_wp2_with (first
            | (have hx := TK5; clear hx TK5; refine wpList_loadX (p := op9C o) aggO9 rfl (.tmp 48) rfl (b := ab) (off := ao + 21 * k) HCELL.out (op9C_len HOW.out) (by first | rfl | go_simp) ?_; have TK6 := Lib.hid True.intro)
            | (have hx := TK6; clear hx TK6; refine wpList_allocC zeroO9_run rfl rfl ?_; have TK7 := Lib.hid True.intro)
            | (have hx := TK7; clear hx TK7; refine wpList_storeC (off := 0) (p := op9C o) aggO9.hi rfl (.tmp 9) (.tmp 49) rfl (.agg (op9C o).toArray) rfl (op9C_one o) HB1.out (op9C_len HOW.out) (by rw [zeroO9_length]; omega) (by first | rfl | go_simp) (by first | rfl | go_simp) ?_; intro w3 h3 g3; rw [over_all _ _ (Nat.le_of_eq (by rw [zeroO9_length, op9C_len HOW.out]))] at h3; have O3 := Lib.hid h3; have W3' := Lib.hid (none_new (grown_alloc wr (.cells zeroO9.toArray 53) none) g3 (Nat.le_refl _)); have W2 := Lib.hid (grown_trans' HW.out W3'.out); have S2 := Lib.hid (HS.out.none W3'.out); have B3 := Lib.hid (HB.out.kept W3'.out); have q0 := h3.at_ (op9C_name o); have qk := h3.at_ (op9C_k o); have qe := B3.out.at_ (enC_name e); have TK8 := Lib.hid True.intro; clear h3 g3)
            | (have hx := TK8; clear hx TK8; refine wpList_loadC (off := 1) (p := enC o.2) aggE rfl (.tmp 66) rfl O3.out (op9C_en HOW.out) (by rw [op9C_len HOW.out]; omega) (by first | rfl | go_simp) ?_)
            | (go_at_call 24; refine (put_any o.2 HOO.out _ (HM.out.below (below_of_none W2.out)) c b M S2.out (by have := HLEN.out; omega)).mono ?_; rintro x w4 ⟨rfl, h4, g4⟩; have S4 := Lib.hid h4; have W4 := Lib.hid (none_new W2.out g4 HCE.out.1); have B4 := Lib.hid (B3.out.grown g4 HCE.out.2.1); clear h4 g4))
          go_roundw
          case rel => exact ⟨k + 1, _, by omega, by go_num, S4.out, put_keeps HIN.out HNQ.out, put_most HS.out.2.1.1.1 HLEN.out o.2, B4.out, W4.out⟩
          case measure => simp [intOf]; omega
    · have HNM := Lib.hid (mem_keysM.2 ⟨e, hin⟩)
      have d16 : decide ((M.length : Int) ≤ 16) = true := decide_eq_true (by omega)
      have qe := hB.at_ (enC_name e)
      have TK5 := Lib.hid True.intro
      have heq := HEQ.out
      clear hS hin hlen hB hW
      cases ho : e.2.2.2.2 with
      | true =>
        have HO := Lib.hid ho
        clear ho
        go_wp2_with (first
          | (go_at_call 26; refine (get_any e.1 (by have := HEN.out; omega) _ _ _ _ HS.out zeroEn false (getB_off HS.out HIN.out HO.out)).mono ?_; rintro x w3 ⟨rfl, g3⟩; have S3 := Lib.hid (HS.out.none g3); have W3 := Lib.hid (grown_trans' HW.out g3); have B3 := Lib.hid (HB.out.kept g3); have TK6 := Lib.hid True.intro; clear g3)
          | (have hx := TK6; clear hx TK6; refine wpList_allocC zeroE_run rfl rfl ?_; have TK7 := Lib.hid True.intro)
          | (have hx := TK7; clear hx TK7; refine wpList_storeC (off := 0) (p := enC zeroEn) aggE.hi rfl (.tmp 10) (.tmp 75) rfl (enV zeroEn) rfl (enC_one zeroEn) (CB.new w3 51 (enC zeroEn)) HLZ.out (by rw [HLZ.out]; omega) (by first | rfl | go_simp) (by first | rfl | go_simp) ?_; intro w4 h4 g4; have G4' := Lib.hid (none_new (grown_alloc w3 (.cells (enC zeroEn).toArray 51) none) g4 (Nat.le_refl _)); have S4 := Lib.hid (S3.out.none G4'.out); have W4 := Lib.hid (grown_trans' W3.out G4'.out); have B4 := Lib.hid (B3.out.kept G4'.out); have q4 := B4.out.at_ (enC_off HEO.out.lk); rw [HO.out] at q4; have TK8 := Lib.hid True.intro; clear h4 g4 qe)
          | (go_at_call 28; refine (list_any _ _ _ _ S4.out (by have := HLEN.out; omega)).mono ?_; rintro x w5 ⟨v, ks, rfl, hk, hv, g5⟩; obtain ⟨A5, c5, hv5, -⟩ := hv.shape; have hkl : ks.length = M.length := by (rw [hk.1.length_eq]; unfold keysM; rw [List.length_map])
             rw [List.length_map, List.length_map, hkl] at hv5; subst hv5; have S5 := Lib.hid (S4.out.none g5); have W5 := Lib.hid (grown_trans' W4.out g5); have B5 := Lib.hid (B4.out.kept g5); have q5 := B5.out.at_ (enC_name e); clear g5 hv hk hkl q4)
          | (go_at_call 22; have hx := TK8; clear hx TK8; refine (drop_any e.1 (by have := HEN.out; omega) _ _ _ _ S5.out true ⟨fun _ => HNM.out, fun _ => rfl⟩).mono ?_; rintro x w6 ⟨rfl, h6, g6⟩; have S6 := Lib.hid h6; have W6 := Lib.hid (none_new W5.out g6 HCE.out.1); have q6 := (B5.out.grown g6 HCE.out.2.1).at_ (enC_name e); have TK9 := Lib.hid True.intro; clear h6 g6 q5)
          | (go_at_call 22; have hx := TK9; clear hx TK9; refine (drop_any e.1 (by have := HEN.out; omega) _ _ _ _ S6.out false ⟨(fun h => by cases h), fun h => absurd h (drop_gone M e.1)⟩).mono ?_; rintro x w7 ⟨rfl, h7, g7⟩; have W7 := Lib.hid (none_new W6.out g7 HCE.out.1); clear h7 g7))
        go_ret
        exact ⟨rfl, W7.out⟩
      | false =>
        have HO := Lib.hid ho
        clear ho
        go_wp2_with (first
          | (go_at_call 26; refine (get_any e.1 (by have := HEN.out; omega) _ _ _ _ HS.out e true (getB HS.out HIN.out HO.out)).mono ?_; rintro x w3 ⟨rfl, g3⟩; have S3 := Lib.hid (HS.out.none g3); have W3 := Lib.hid (grown_trans' HW.out g3); have B3 := Lib.hid (HB.out.kept g3); have TK6 := Lib.hid True.intro; clear g3)
          | (have hx := TK6; clear hx TK6; refine wpList_allocC zeroE_run rfl rfl ?_; have TK7 := Lib.hid True.intro)
          | (have hx := TK7; clear hx TK7; refine wpList_storeC (off := 0) (p := enC e) aggE.hi rfl (.tmp 10) (.tmp 75) rfl (enV e) rfl (enC_one e) (CB.new w3 51 (enC zeroEn)) HLE.out (by rw [HLZ.out]; omega) (by first | rfl | go_simp) (by first | rfl | go_simp) ?_; intro w4 h4 g4; rw [over_all _ _ (Nat.le_of_eq (by rw [HLZ.out, HLE.out]))] at h4; have C4 := Lib.hid h4; have G4' := Lib.hid (none_new (grown_alloc w3 (.cells (enC zeroEn).toArray 51) none) g4 (Nat.le_refl _)); have S4 := Lib.hid (S3.out.none G4'.out); have W4 := Lib.hid (grown_trans' W3.out G4'.out); have B4 := Lib.hid (B3.out.kept G4'.out); have q4 := B4.out.at_ (enC_off HEO.out.lk); rw [HO.out] at q4; have TK8 := Lib.hid True.intro; have TKa := Lib.hid True.intro; clear h4 g4 qe)
          | (have hx := TKa; refine wpList_loadCg (off := 0) (p := enC e) aggE (by first | rfl | go_simp) (.tmp 10) rfl C4.out (take_all HLE.out) (by rw [HLE.out]; omega) (by first | rfl | go_simp) ?_; clear hx TKa; have TKb := Lib.hid True.intro)
          | (have hx := TKb; refine wpList_loadCg (off := 0) (p := enC e) aggE (by first | rfl | go_simp) (.tmp 2) rfl B4.out (take_all HLE.out) (by rw [HLE.out]; omega) (by first | rfl | go_simp) ?_; clear hx TKb)
          | (go_at_call 28; refine (list_any _ _ _ _ S4.out (by have := HLEN.out; omega)).mono ?_; rintro x w5 ⟨v, ks, rfl, hk, hv, g5⟩; obtain ⟨A5, c5, hv5, -⟩ := hv.shape; have hkl : ks.length = M.length := by (rw [hk.1.length_eq]; unfold keysM; rw [List.length_map])
             rw [List.length_map, List.length_map, hkl] at hv5; subst hv5; have S5 := Lib.hid (S4.out.none g5); have W5 := Lib.hid (grown_trans' W4.out g5); have B5 := Lib.hid (B4.out.kept g5); have q5 := B5.out.at_ (enC_name e); clear g5 hv hk hkl q4)
          | (go_at_call 22; have hx := TK8; clear hx TK8; refine (drop_any e.1 (by have := HEN.out; omega) _ _ _ _ S5.out true ⟨fun _ => HNM.out, fun _ => rfl⟩).mono ?_; rintro x w6 ⟨rfl, h6, g6⟩; have S6 := Lib.hid h6; have W6 := Lib.hid (none_new W5.out g6 HCE.out.1); have q6 := (B5.out.grown g6 HCE.out.2.1).at_ (enC_name e); have TK9 := Lib.hid True.intro; clear h6 g6 q5)
          | (go_at_call 22; have hx := TK9; clear hx TK9; refine (drop_any e.1 (by have := HEN.out; omega) _ _ _ _ S6.out false ⟨(fun h => by cases h), fun h => absurd h (drop_gone M e.1)⟩).mono ?_; rintro x w7 ⟨rfl, h7, g7⟩; have W7 := Lib.hid (none_new W6.out g7 HCE.out.1); clear h7 g7))
        go_ret
        exact ⟨rfl, W7.out⟩

theorem walk_BaseLast (w : World) (hM : ML w) (e : En) (he : enW e) (A : Option Addr) (l : List Op9) (cap : Nat) (hA : SR w w.heap.size A 21 (l.map op9C) cap) (hl : ∀ o ∈ l, op9W o) :
    Calls Tryd.prog 6 #[.agg (enC e).toArray, .slice A l.length cap] w fun x w' => x = .returned (.bool true) ∧ Below w.heap.size w w' := by
  have go : Calls Tryd.prog 6 #[.agg (enC e).toArray, .slice A l.length cap] w fun x w' => x = .returned (.bool true) ∧ w.grownBy w' none := by
    by_cases hg : greatO9 l = true ∨ 300 < e.1.length
    · exact last_great w hM e A l _ cap rfl hA hl hg
    · have hg1 : greatO9 l = false := by
        cases h : greatO9 l with
        | true => exact absurd (Or.inl h) hg
        | false => rfl
      have hln : e.1.length ≤ 300 := by
        have : ¬ 300 < e.1.length := fun h => hg (Or.inr h)
        omega
      cases hr : rightE e with
      | false => exact last_wrong w hM e he A l _ cap rfl hA hl hg1 hln hr
      | true => exact last_right w hM e he A l _ cap rfl hA hl hg1 hln hr
  exact go.mono fun x w' h => ⟨h.1, below_of_none h.2⟩
end Go.Proofs.YtejmbabeniekhaaDoor
