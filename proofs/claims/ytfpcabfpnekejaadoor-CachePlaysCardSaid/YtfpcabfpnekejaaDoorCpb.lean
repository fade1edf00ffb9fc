/- The document's tickets in memory; the walks of its 'at' and 'Find'. -/
import Derived.Test.YtfpcabfpnekejaaDoorCpa
namespace Go.Proofs.YtfpcabfpnekejaaDoor
open Go.RowKit Go.Maps Go.WideMaps

theorem ceC_length {p : Ce} (h : cdOk p.1) : (ceC p).length = 23 := cdC_length h.w.lk _ _
theorem ceC_one (p : Ce) : ∀ u ∈ ceC p, u.oneCell' = true := cdC_one _ _ _
/-- The document's cache: its tickets lie in a row of its own, all of it at or above B. -/
def LC (w : World) (B m : Nat) (E : List Ce) : Prop :=
  B ≤ m ∧ (∃ v, CB w m 30 [v] ∧ RowX w B 38 23 v (E.map ceC)) ∧ (∀ x ∈ E, cdOk x.1) ∧ E.length ≤ 8
theorem LC.none {w w' : World} {B m : Nat} {E : List Ce} (h : LC w B m E) (hg : w.grownBy w' none) : LC w' B m E := by
  obtain ⟨h1, ⟨v, h2, h3⟩, h4⟩ := h
  exact ⟨h1, ⟨v, h2.kept hg, h3.none hg⟩, h4⟩
/-- Another block is written, which is neither of such tickets nor a cache of the document. -/
theorem LC.map {w w' : World} {B m g : Nat} {E : List Ce} {es : Array MapEntry} {cl : Nat} (h : LC w B m E) (hb : w.heap[g]? = some (.map es cl)) (hg : w.grownBy w' (some g)) : LC w' B m E := by
  obtain ⟨h1, ⟨v, h2, h3⟩, h4⟩ := h
  refine ⟨h1, ⟨v, h2.grown hg (fun e => ?_), h3.row hg (h3.ne_map hb)⟩, h4⟩
  subst e
  have := h2.symm.trans hb
  injection this with this
  cases this
theorem LC.cells {w w' : World} {B m g : Nat} {E : List Ce} {t : TypeId} {cs : Array Value} {z : Nat × Nat} (h : LC w B m E) (hb : w.heap[g]? = some (.cells cs t z)) (h1 : t ≠ 30) (h2 : t ≠ 38) (hg : w.grownBy w' (some g)) : LC w' B m E := by
  obtain ⟨k1, ⟨v, k2, k3⟩, k4⟩ := h
  refine ⟨k1, ⟨v, k2.grown hg (fun e => ?_), k3.row hg (k3.ne_cells hb (fun e => h2 e.symm))⟩, k4⟩
  subst e
  have := k2.symm.trans hb
  injection this with this
  injection this with _ this
  exact h1 this.symm
theorem LC.open_ {w : World} {B m : Nat} {E : List Ce} (h : LC w B m E) : ∃ A cap, CB w m 30 [.slice A E.length cap] ∧ RowX w B 38 23 (.slice A E.length cap) (E.map ceC) ∧ SR w w.heap.size A 23 (E.map ceC) cap := by
  obtain ⟨-, ⟨v, h2, h3⟩, -⟩ := h
  obtain ⟨A, cap, rfl, hs, -⟩ := h3.shape
  rw [List.length_map] at h2 h3
  exact ⟨A, cap, h2, h3, hs⟩
def atIc (o : Option Nat) : Int := match o with
  | some i => i
  | none => -1

set_option maxRecDepth 10000 in
set_option maxHeartbeats 1000000 in
/-- .. whoever holds the row. -/
theorem atRow_any (w : World) (m : Nat) (E : List Ce) (A : Option Addr) (cap : Nat) (hb : CB w m 30 [.slice A E.length cap]) (hs : SR w w.heap.size A 23 (E.map ceC) cap) (h8 : E.length ≤ 1000) (nm : List UInt8) :
    Calls Tryd.prog 15 #[.pointer (some ⟨m, 0, none⟩), .string ⟨nm.toArray⟩] w fun e w' => e = .returned (.int .i64 (atIc (atS nmC E nm))) ∧ w' = w := by
  obtain ⟨n, hn⟩ : ∃ n, E.length = n := ⟨_, rfl⟩
  rw [hn] at hb
  have HN := Lib.hid hn
  have HS := Lib.hid hs
  have N16 := Lib.hid (show n ≤ 1000 by rw [← hn]; exact h8)
  have q0 : w.cell? ⟨m, 0, none⟩ = some (.slice A n cap) := hb.at_ rfl
  clear h8 hb hs hn
  go_enter Tryd.func15, Tryd.ntmps15
  go_wp2
  go_loopw [5] (fun v wr => ∃ k : Nat, k ≤ n ∧ v = .int .i64 k ∧ (∀ j y, E[j]? = some y → j < k → nmC y ≠ nm) ∧ wr = w) (fun v _ => n - (intOf v).toNat)
  case atStart => exact ⟨0, Nat.zero_le _, rfl, (fun j y _ hj => by omega), rfl⟩
  case round =>
    obtain ⟨k, hk, rfl, hbe, rfl⟩ := hrel
    have HBE := Lib.hid hbe
    have hn0 := N16.out
    clear hbe
    by_cases hlt : k < n
    · have hlti : (k : Int) < (n : Int) := by omega
      have hkE : k < E.length := by rw [HN.out]; exact hlt
      obtain ⟨x, hx⟩ : ∃ x, E[k] = x := ⟨_, rfl⟩
      obtain ⟨ab, ao, hAe, -, hcells⟩ := HS.out.elem (k := k) (by rw [List.length_map]; exact hkE)
      have q1 : wr.cell? ⟨ab, ao + k * 23 + 2, none⟩ = some (.string ⟨x.1.sv.toArray⟩) := by rw [Nat.mul_comm]; exact hcells 2 _ (by rw [List.getElem_map, hx]; rfl)
      have HX := Lib.hid (show E[k]? = some x by rw [List.getElem?_eq_getElem hkE, hx])
      subst hAe
      clear hcells hx
      by_cases he : x.1.sv = nm
      · have d0 : (x.1.sv == nm) = true := by simpa using he
        have HE := Lib.hid (show atS nmC E nm = some k from atS_of HX.out he HBE.out)
        clear he
        go_wp2
        go_ret
        rw [HE.out]
        exact ⟨rfl, rfl⟩
      · have d0 : (x.1.sv == nm) = false := by simpa using he
        have HNE := Lib.hid he
        clear he
        go_wp2
        go_roundw
        case rel =>
          refine ⟨k + 1, by omega, by go_num, fun j y hy hj => ?_, by first | rfl | trivial⟩
          by_cases e : j = k
          · subst e
            have := HX.out.symm.trans hy
            injection this with this
            subst this
            exact HNE.out
          · exact HBE.out j y hy (by omega)
        case measure => simp [intOf]; omega
    · have HE := Lib.hid (show atS nmC E nm = none from atS_none.2 fun y hy => by
        obtain ⟨j, hj, rfl⟩ := List.getElem_of_mem hy
        exact HBE.out j _ (List.getElem?_eq_getElem hj) (by have := HN.out; omega))
      have hnlt : ¬ ((k : Int) < (n : Int)) := by omega
      go_wp2
      go_ret
      rw [HE.out]
      exact ⟨rfl, rfl⟩
theorem catis (w : World) (m : Nat) (E : List Ce) (A : Option Addr) (n cap : Nat) (hn : E.length = n) (hb : CB w m 30 [.slice A n cap]) (hs : SR w w.heap.size A 23 (E.map ceC) cap) (h8 : n ≤ 1000) (nm : List UInt8) (k : Int) (hk : atIc (atS nmC E nm) = k) :
    Calls Tryd.prog 15 #[.pointer (some ⟨m, 0, none⟩), .string ⟨nm.toArray⟩] w fun e w' => e = .returned (.int .i64 k) ∧ w' = w := by
  subst hn
  rw [← hk]
  exact atRow_any w m E A cap hb hs h8 nm
theorem cat_is (w : World) (B m : Nat) (E : List Ce) (h : LC w B m E) (nm : List UInt8) (k : Int) (hk : atIc (atS nmC E nm) = k) :
    Calls Tryd.prog 15 #[.pointer (some ⟨m, 0, none⟩), .string ⟨nm.toArray⟩] w fun e w' => e = .returned (.int .i64 k) ∧ w' = w := by
  obtain ⟨A, cap, hb, -, hs⟩ := h.open_
  exact catis w m E A _ cap rfl hb hs (Nat.le_trans h.2.2.2 (by omega)) nm k hk
/-- An element, where it lies. -/
theorem lc_elem {w : World} {B m : Nat} {E : List Ce} {i : Nat} {x : Ce} (h : LC w B m E) (hx : E[i]? = some x) : ∃ ab ao cap, CB w m 30 [.slice (some ⟨ab, ao, none⟩) E.length cap] ∧ (∀ j v, (ceC x)[j]? = some v → w.cell? ⟨ab, ao + i * 23 + j, none⟩ = some v) ∧ i < E.length ∧ E.length ≤ 8 ∧ cdOk x.1 := by
  obtain ⟨A, cap, hb, -, hs⟩ := h.open_
  obtain ⟨hi, hxe⟩ := List.getElem?_eq_some_iff.1 hx
  obtain ⟨ab, ao, rfl, -, hc⟩ := hs.elem (k := i) (by rw [List.length_map]; exact hi)
  refine ⟨ab, ao, cap, hb, fun j v hj => ?_, hi, h.2.2.2, h.2.2.1 x (List.mem_of_getElem? hx)⟩
  rw [Nat.mul_comm]
  exact hc j v (by rw [List.getElem_map, hxe]; exact hj)
theorem run_buildCr (w : World) : (Instr.build 38 #[]).run Tryd.prog w = .ok (.agg (ceC zeroCe).toArray) w := by kernel_rfl
theorem wpList_buildVc {P : Program} {ops : Array Oper} {Q : Exit → Act → World → Prop} {rest : List Oper} {o : Oper} {a : Act} {w : World} {t : TypeId} {parts : Array (Nat × Operand)} {ps : Array (Nat × Value)} {v : Value} (hgd : o.guard = none) (ho : o.op = .build t parts) (hp : parts.map (fun (i, x) => (i, a.eval x)) = ps) (hr : (Instr.build t ps).run P w = .ok v w)
    (hk : wpList P ops Q rest (a.put o.dst v) w) : wpList P ops Q (o :: rest) a w := by
  refine wpList_plain hgd fun K hK => ?_
  unfold Oper.wp execOp
  have hp' : parts.map (fun (i, x) => (i, a.eval x)) = ps := hp
  simp only [ho, hp', Sem.run_bind, Sem.run_pure, Result.andThen_ok, hr]
  exact hK _ _ hk
/-- What the document's Find answers. -/
def FindR (w : World) (o : Option Ce) (e : Ending) (w' : World) : Prop := w.grownBy w' none ∧ e = .returned (.tuple #[.agg (ceC (o.getD zeroCe)).toArray, .bool o.isSome])
set_option maxRecDepth 10000 in
set_option maxHeartbeats 1000000 in
theorem crefFind_any (w : World) (B m : Nat) (E : List Ce) (h : LC w B m E) (n : List UInt8) (now : Int) :
    Calls Tryd.prog 12 #[.pointer (some ⟨m, 0, none⟩), .string ⟨n.toArray⟩, .int .i64 now] w fun e w' => FindR w (findD E n now) e w' := by
  have G0 := Lib.hid (grown_alloc w (.cells (ceC zeroCe).toArray 38) none)
  have Z0 := Lib.hid (CB.new w 38 (ceC zeroCe))
  have S0 := Lib.hid (h.none G0.out)
  cases ha : atS nmC E n with
  | none =>
    have hg : findD E n now = none := by unfold findD; rw [ha]
    rw [hg]
    have HA := Lib.hid (show atIc (atS nmC E n) = -1 by rw [ha]; rfl)
    clear h hg ha
    go_enter Tryd.func12, Tryd.ntmps12
    go_wp2_with (first
      | refine wpList_allocC zeroC_run rfl rfl ?_
      | (go_at_call 15; refine (cat_is _ B m E S0.out n (-1) HA.out).mono ?_; rintro r wn ⟨rfl, rfl⟩)
      | refine wpList_buildVc rfl rfl (by first | rfl | (go_simp; rfl)) (run_buildCr _) ?_
      | (refine wpList_storeC (off := 0) (p := ceC zeroCe) aggC.hi rfl (.tmp 6) (.tmp 27) rfl (.agg (ceC zeroCe).toArray) rfl (ceC_one zeroCe) Z0.out zeroCe_length (by rw [zeroCe_length]; omega) (by first | rfl | go_simp) (by first | rfl | go_simp) ?_; intro w3 h3 g3; rw [over_all _ _ (by first | exact Nat.le_refl _ | exact Nat.le_of_eq (by rw [zeroCe_length, zeroCe_length]))] at h3; have C3 := Lib.hid h3; have G3 := Lib.hid (none_new G0.out g3 (Nat.le_refl _)); clear h3 g3))
    refine bodyPost_ret (results_C2 rfl _ aggC C3.out zeroCe_length rfl rfl) rfl ⟨G3.out, rfl⟩
  | some i =>
    obtain ⟨x, hx, hn, -⟩ := atS_some ha
    have hgd : E.getD i zeroCe = x := by rw [List.getD_eq_getElem?_getD, hx]; rfl
    have HA := Lib.hid (show atIc (atS nmC E n) = (i : Int) by rw [ha]; rfl)
    obtain ⟨ab, ao, cap, hcb, hcells, hil, h16, hok⟩ := lc_elem S0.out hx
    obtain ⟨nE, hnE⟩ : ∃ k, E.length = k := ⟨_, rfl⟩
    rw [hnE] at hcb hil h16
    have hili : (i : Int) < (nE : Int) := by omega
    have q0 := hcb.at_ (i := 0) (v := .slice (some ⟨ab, ao, none⟩) nE cap) rfl
    have q1 := hcells 21 _ (cdC_en hok.w.lk x.2.1 x.2.2)
    have HC := Lib.hid hcells
    have HLX := Lib.hid (ceC_length hok)
    have hlt0 : ¬ ((i : Int) < 0) := by omega
    by_cases ho : x.1.en < now
    · have hg : findD E n now = none := by unfold findD; rw [ha]; simp only [hgd]; rw [if_pos ho]
      rw [hg]
      clear h hg ha hn hgd hx hcb hcells hok
      go_enter Tryd.func12, Tryd.ntmps12
      go_wp2_with (first
        | refine wpList_allocC zeroC_run rfl rfl ?_
        | (go_at_call 15; refine (cat_is _ B m E S0.out n (i : Int) HA.out).mono ?_; rintro r wn ⟨rfl, rfl⟩)
        | refine wpList_buildVc rfl rfl (by first | rfl | (go_simp; rfl)) (run_buildCr _) ?_
        | (refine wpList_storeC (off := 0) (p := ceC zeroCe) aggC.hi rfl (.tmp 6) (.tmp 27) rfl (.agg (ceC zeroCe).toArray) rfl (ceC_one zeroCe) Z0.out zeroCe_length (by rw [zeroCe_length]; omega) (by first | rfl | go_simp) (by first | rfl | go_simp) ?_; intro w3 h3 g3; rw [over_all _ _ (by first | exact Nat.le_refl _ | exact Nat.le_of_eq (by rw [zeroCe_length, zeroCe_length]))] at h3; have C3 := Lib.hid h3; have G3 := Lib.hid (none_new G0.out g3 (Nat.le_refl _)); clear h3 g3))
      refine bodyPost_ret (results_C2 rfl _ aggC C3.out zeroCe_length rfl rfl) rfl ⟨G3.out, rfl⟩
    · have hg : findD E n now = some x := by unfold findD; rw [ha]; simp only [hgd]; rw [if_neg ho]
      rw [hg]
      clear h hg ha hn hgd hx hcb hcells hok
      go_enter Tryd.func12, Tryd.ntmps12
      go_wp2_with (first
        | refine wpList_allocC zeroC_run rfl rfl ?_
        | (go_at_call 15; refine (cat_is _ B m E S0.out n (i : Int) HA.out).mono ?_; rintro r wn ⟨rfl, rfl⟩)
        | refine wpList_loadX (p := ceC x) aggC rfl (.tmp 33) rfl (b := ab) (off := ao + i * 23) HC.out HLX.out (by first | rfl | go_simp) ?_
        | (refine wpList_storeC (off := 0) (p := ceC x) aggC.hi rfl (.tmp 6) (.tmp 34) rfl (.agg (ceC x).toArray) rfl (ceC_one x) Z0.out HLX.out (by rw [zeroCe_length]; omega) (by first | rfl | go_simp) (by first | rfl | go_simp) ?_; intro w3 h3 g3; rw [over_all _ _ (by first | exact Nat.le_refl _ | exact Nat.le_of_eq (by rw [zeroCe_length, HLX.out]))] at h3; have C3 := Lib.hid h3; have G3 := Lib.hid (none_new G0.out g3 (Nat.le_refl _)); clear h3 g3))
      refine bodyPost_ret (results_C2 rfl _ aggC C3.out HLX.out rfl rfl) rfl ⟨G3.out, rfl⟩
end Go.Proofs.YtfpcabfpnekejaaDoor
