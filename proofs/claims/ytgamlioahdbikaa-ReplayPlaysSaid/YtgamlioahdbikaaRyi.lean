/- Scripts that came in; the walks of great and ReplayOnce. -/
import Derived.Test.YtgamlioahdbikaaRyh
namespace Go.Proofs.Ytgamlioahdbikaa
open Go.ChangeShapes Go.WideShapes Go.RowKit Go.Maps

section
variable {P : Program} {k : TypeId} {α β : Type} {kv : α → Value} {vv : β → Value} {M : List (α × β)} {w : World} {ops : Array Oper} {rest : List Oper} {o : Oper} {a : Act} {Q : Exit → Act → World → Prop} {b : Nat} {t e : TypeId}
/-- 'm[k]', the key is there. -/
theorem wpList_look1In (K : Keyed P k) (hi : ∀ a b : α, kv a = kv b → a = b) (hg : o.guard = none) (m x : Operand) (hop : o.op = Op.lookup t m x false) (ht : P.underlying t = some (.map k e)) {z : Value} (hz : ∀ w, (zeroValue e).run P w = .ok z w)
    (h : MT P k kv vv w b M) (hm : a.eval m = .map (some b)) (ky : α) (v : β) (hx : a.eval x = kv ky) (hin : (ky, v) ∈ M)
    (hK : wpList P ops Q rest (a.put o.dst (vv v)) w) : wpList P ops Q (o :: rest) a w := by
  have hok : OkK P k kv ky := h.1.2 ky (mem_keysM.2 ⟨v, hin⟩)
  refine wpList_plain hg fun K' hK' => ?_
  obtain ⟨u, ps, hrun, hv⟩ := h.2.lookup K ht (hz w) (zd := .held z) (zp := []) rfl hok
  rw [at_datM K hi h.1 hin] at hv
  unfold RV at hv
  simp at hv
  rw [hv.1] at hrun
  unfold Oper.wp
  simp [execOp, hop, hm, hx, hrun, Result.andThen]
  exact hK' _ _ hK
variable [DecidableEq α]
/-- 'm[k]', the key isn't there. -/
theorem wpList_look1Out (K : Keyed P k) (hi : ∀ a b : α, kv a = kv b → a = b) (hg : o.guard = none) (m x : Operand) (hop : o.op = Op.lookup t m x false) (ht : P.underlying t = some (.map k e)) {z : Value} (hz : ∀ w, (zeroValue e).run P w = .ok z w)
    (h : MT P k kv vv w b M) (hm : a.eval m = .map (some b)) (ky : α) (hok : OkK P k kv ky) (hx : a.eval x = kv ky) (hout : ky ∉ keysM M)
    (hK : wpList P ops Q rest (a.put o.dst z) w) : wpList P ops Q (o :: rest) a w := by
  have hh : Maps.has (datM P k kv vv M) (litOf P k kv ky) = false := by rw [has_datM K hi h.1 hok]; exact decide_eq_false hout
  refine wpList_plain hg fun K' hK' => ?_
  obtain ⟨v, ps, hrun, hv⟩ := h.2.lookup K ht (hz w) (zd := .held z) (zp := []) rfl hok
  rw [Maps.atKey_of_not_has hh] at hv
  unfold RV at hv
  simp at hv
  rw [hv.1] at hrun
  unfold Oper.wp
  simp [execOp, hop, hm, hx, hrun, Result.andThen]
  exact hK' _ _ hK
end
/-- One step of a script: is it a restart, the authenticator, the time. -/
abbrev Op12 := Bool × Au × Int
def opC (o : Op12) : List Value := [.bool o.1] ++ auC o.2.1 ++ [.int .i64 o.2.2]
structure opW (o : Op12) : Prop where
  au : auW o.2.1
  now : I64 o.2.2
theorem opC_len {o : Op12} (h : opW o) : (opC o).length = 21 := by simp [opC, auC_len h.au]
theorem opC_one (o : Op12) : ∀ u ∈ opC o, u.oneCell' = true := by
  intro u hu
  rcases List.mem_append.1 hu with hu | hu
  · rcases List.mem_append.1 hu with hu | hu
    · rw [List.mem_singleton.1 hu]; rfl
    · exact auC_one _ u hu
  · rw [List.mem_singleton.1 hu]; rfl
theorem opC_res (o : Op12) : (opC o)[0]? = some (.bool o.1) := rfl
theorem opC_cl (o : Op12) : (opC o)[1]? = some (.string ⟨o.2.1.1.toArray⟩) := rfl
theorem opC_now {o : Op12} (h : opW o) : (opC o)[20]? = some (.int .i64 o.2.2) := by
  unfold opC
  rw [List.getElem?_append_right (by simp [auC_len h.au])]
  simp [auC_len h.au]
theorem opC_au {o : Op12} (h : opW o) : ((opC o).drop 1).take 19 = auC o.2.1 := by
  show (auC o.2.1 ++ [Value.int .i64 o.2.2]).take 19 = _
  exact List.take_left' (auC_len h.au)
section
variable {H : Type} {enc : TypeId × Value → H} {w : World} {base : Nat} {spare : Nat → Bool} {held : Bool}
set_option maxRecDepth 10000 in
theorem op12_of_trod {fuel : Nat} {cs : List Value} {x : DataW H × List MemPlace} (hlen : cs.length = 21) (hf0 : DataW.trod enc Try.prog w base spare held fuel 37 cs = some x) : ∃ o : Op12, cs = opC o ∧ opW o := by
  obtain ⟨xs, n, _, _, _, hxl, hf⟩ := DataW.trod_struct Try.underlying37 hf0
  have hC1 : Try.prog.cellsOf 35 = 19 := by kernel_rfl
  have hC2 : Try.prog.cellsOf 2 = 1 := by kernel_rfl
  have hC3 : Try.prog.cellsOf 4 = 1 := by kernel_rfl
  match xs, hxl with
  | [y0, y1, y2], _ =>
    have h0 := hf 0 _ rfl
    change DataW.trod enc Try.prog w base spare held n 4 (List.take (Try.prog.cellsOf 4) (List.drop 0 cs)) = some y0 at h0
    rw [hC3] at h0
    obtain ⟨r, e0, _⟩ := DataW.trod_bool Try.underlying4 h0
    have h1 := hf 1 _ rfl
    change DataW.trod enc Try.prog w base spare held n 35 (List.take (Try.prog.cellsOf 35) (List.drop 1 cs)) = some y1 at h1
    rw [hC1] at h1
    obtain ⟨u, e1, w1⟩ := auth_of_trod (by rw [List.length_take, List.length_drop, hlen]; rfl) h1
    have h2 := hf 2 _ rfl
    change DataW.trod enc Try.prog w base spare held n 2 (List.take (Try.prog.cellsOf 2) (List.drop 20 cs)) = some y2 at h2
    rw [hC2] at h2
    obtain ⟨ti, e2, _, w2⟩ := DataW.trod_int Try.underlying2 h2
    refine ⟨(r, u, ti), ?_, ⟨w1, I64.of w2⟩⟩
    have hall : cs.drop 0 = opC (r, u, ti) := by
      rw [drop_step cs 0 1, e0, show 0 + 1 = 1 from rfl]
      rw [drop_step cs 1 19, e1, show 1 + 19 = 20 from rfl]
      rw [drop_step cs 20 1, e2, show 20 + 1 = 21 from rfl]
      rw [List.drop_eq_nil_of_le (by omega)]
      simp [opC]
    rw [List.drop_zero] at hall
    exact hall
theorem ops12_of_trod {A : Option Addr} {len cap : Nat} {d : DataW H} {p : List MemPlace} (h : DataW.Trod enc Try.prog w base spare held 22 (.slice A len cap) d p) :
    ∃ us : List Op12, us.length = len ∧ SR w w.heap.size A 21 (us.map opC) cap ∧ ∀ u ∈ us, opW u :=
  SR.of_trod Try.underlying22 (by kernel_rfl) (by omega) opC opW (fun _ h => opC_len h) (fun _ _ _ hl hx => op12_of_trod hl hx) h
end
def zeroO : List Value := [.bool false] ++ zeroA ++ [.int .i64 0]
theorem zeroO_length : zeroO.length = 21 := by simp [zeroO, zeroA_length]
theorem zeroO_run (w : World) : (zeroValue 37).run Try.prog w = .ok (.agg zeroO.toArray) w := by kernel_rfl
theorem aggO : AggT Try.prog 37 21 := ⟨fun _ => by kernel_rfl, by kernel_rfl⟩

def longO (o : Op12) : Bool := decide (100 < o.2.1.1.length)
def greatO (l : List Op12) : Bool := decide (100 < l.length) || l.any longO
theorem any_take {l : List Op12} {k : Nat} (hk : k < l.length) : (l.take (k + 1)).any longO = ((l.take k).any longO || longO l[k]) := by
  rw [List.take_succ_eq_append_getElem hk, List.any_append]
  simp

set_option maxRecDepth 10000 in
set_option maxHeartbeats 2000000 in
theorem great_any (w : World) (A : Option Addr) (l : List Op12) (n cap B : Nat) (hn : l.length = n) (hA : SR w B A 21 (l.map opC) cap) (hB : B ≤ w.heap.size) (hl : ∀ o ∈ l, opW o) :
    Calls Try.prog 8 #[.slice A n cap] w fun e w' => e = .returned (.bool (greatO l)) ∧ w.grownBy w' none := by
  by_cases h0 : 100 < n
  · have t0 : decide ((100 : Int) < (n : Int)) = true := decide_eq_true (by omega)
    have hg : greatO l = true := by unfold greatO; rw [hn, decide_eq_true h0]; rfl
    rw [hg]
    clear h0 hA hB hl hg hn
    go_enter Try.func8, Try.ntmps8
    go_wp2
    go_ret
    exact ⟨rfl, World.grownBy.refl _ _⟩
  · have t0 : decide ((100 : Int) < (n : Int)) = false := decide_eq_false (by omega)
    have hg : greatO l = l.any longO := by unfold greatO; rw [hn, decide_eq_false h0]; rfl
    rw [hg]
    have HN := Lib.hid hn
    have HA := Lib.hid hA
    have HB := Lib.hid hB
    have HL := Lib.hid hl
    have N0 := Lib.hid h0
    clear h0 hA hB hl hg hn
    go_enter Try.func8, Try.ntmps8
    go_wp2
    clear t0
    go_loopw [10] (fun v wr => ∃ k : Nat, k ≤ n ∧ v = .int .i64 k ∧ (l.take k).any longO = false ∧ w.grownBy wr none) (fun v _ => n - (intOf v).toNat)
    case atStart => exact ⟨0, Nat.zero_le _, rfl, rfl, World.grownBy.refl _ _⟩
    case round =>
      obtain ⟨k, hk, rfl, hany, hW⟩ := hrel
      have HW := Lib.hid hW
      have hn0 := N0.out
      by_cases hlt : k < n
      · obtain ⟨o, ho⟩ : ∃ o, o = l[k]'(by rw [HN.out]; exact hlt) := ⟨_, rfl⟩
        obtain ⟨ab, ao, hAe, hab, hcells⟩ := HA.out.elem (k := k) (by rw [List.length_map, HN.out]; exact hlt)
        have HOW := Lib.hid (show opW o by rw [ho]; exact HL.out _ (List.getElem_mem _))
        have hce : (l.map opC)[k]'(by rw [List.length_map, HN.out]; exact hlt) = opC o := by rw [List.getElem_map, ho]
        rw [hce] at hcells
        have HCELL := Lib.hid (show ∀ j v, (opC o)[j]? = some v → wr.cell? ⟨ab, ao + 21 * k + j, none⟩ = some v from fun j v hj => ((below_of_none HW.out).cell (p := ⟨ab, _, none⟩) (Nat.lt_of_lt_of_le hab HB.out)).trans (hcells j v hj))
        have HNX := Lib.hid (show (l.take (k + 1)).any longO = longO o by rw [any_take (by rw [HN.out]; exact hlt), hany, ho]; rfl)
        have HMEM := Lib.hid (show o ∈ l by rw [ho]; exact List.getElem_mem _)
        subst hAe
        clear hW hce hcells ho hab hany
        have HB1 := Lib.hid (CB.new wr 37 zeroO)
        by_cases h100 : 100 < o.2.1.1.length
        · have d1 : decide ((100 : Int) < (o.2.1.1.length : Int)) = true := decide_eq_true (by omega)
          have HE := Lib.hid (show l.any longO = true from List.any_eq_true.2 ⟨o, HMEM.out, decide_eq_true h100⟩)
          clear h100
          go_wp2_with (first
            | (refine wpList_loadX (p := opC o) aggO rfl (.tmp 12) rfl (b := ab) (off := ao + 21 * k) HCELL.out (opC_len HOW.out) (by first | rfl | go_simp) ?_)
            | refine wpList_allocC zeroO_run rfl rfl ?_
            | (refine wpList_storeC (off := 0) (p := opC o) aggO.hi rfl (.tmp 4) (.tmp 13) rfl (.agg (opC o).toArray) rfl (opC_one o) HB1.out (opC_len HOW.out) (by rw [zeroO_length]; omega) (by first | rfl | go_simp) (by first | rfl | go_simp) ?_; intro w2 h2 g2; rw [over_all _ _ (Nat.le_of_eq (by rw [zeroO_length, opC_len HOW.out]))] at h2; have W2 := Lib.hid (none_new (grown_trans' HW.out (grown_alloc wr (.cells zeroO.toArray 37) none)) g2 HW.out.size); have q0 := h2.at_ (opC_cl o); clear h2 g2))
          go_ret
          rw [HE.out]
          exact ⟨rfl, W2.out⟩
        · have d1 : decide ((100 : Int) < (o.2.1.1.length : Int)) = false := decide_eq_false (by omega)
          have HE := Lib.hid (show longO o = false from decide_eq_false h100)
          clear h100
          go_wp2_with (first
            | (refine wpList_loadX (p := opC o) aggO rfl (.tmp 12) rfl (b := ab) (off := ao + 21 * k) HCELL.out (opC_len HOW.out) (by first | rfl | go_simp) ?_)
            | refine wpList_allocC zeroO_run rfl rfl ?_
            | (refine wpList_storeC (off := 0) (p := opC o) aggO.hi rfl (.tmp 4) (.tmp 13) rfl (.agg (opC o).toArray) rfl (opC_one o) HB1.out (opC_len HOW.out) (by rw [zeroO_length]; omega) (by first | rfl | go_simp) (by first | rfl | go_simp) ?_; intro w2 h2 g2; rw [over_all _ _ (Nat.le_of_eq (by rw [zeroO_length, opC_len HOW.out]))] at h2; have W2 := Lib.hid (none_new (grown_trans' HW.out (grown_alloc wr (.cells zeroO.toArray 37) none)) g2 HW.out.size); have q0 := h2.at_ (opC_cl o); clear h2 g2))
          go_roundw
          case rel => exact ⟨k + 1, by omega, by go_num, by rw [HNX.out, HE.out], W2.out⟩
          case measure => simp [intOf]; omega
      · have HE := Lib.hid (show l.any longO = false by rw [← hany, List.take_of_length_le (by rw [HN.out]; omega)])
        clear hany hW
        go_wp2
        go_ret
        rw [HE.out]
        exact ⟨rfl, HW.out⟩
end Go.Proofs.Ytgamlioahdbikaa
