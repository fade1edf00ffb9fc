/- The walk of a Reader's whole. -/
import Derived.Test.YtajfaplaaafjiaaFrc
import Derived.Test.YtajfaplaaafjiaaInz
namespace Go.Proofs.Ytajfaplaaafjiaa
open Go.RowKit

theorem keepC {w x : World} {p : Addr} {v : Value} (hg : w.grownBy x none) (h : w.cell? p = some v) : x.cell? p = some v :=
  (World.cell?_of_block (hg.block p.block (World.block_lt_of_cell? w p h) (fun e => by cases e))).trans h
section
variable {P : Program} {w : World} {o : Oper} {d : Option Tmp} {a : Act} {K : Act → World → Prop} {Q : Exit → Act → World → Prop} {ty t e : TypeId} {n g off : Nat} {cs p : List Value}
theorem run_allocC (hz : ∀ w, (zeroValue ty).run P w = .ok (.agg cs.toArray) w) (w : World) : (Instr.alloc ty true (.tuple #[])).run P w = .ok (.pointer (some ⟨w.heap.size, 0, none⟩)) (w.alloc (.cells cs.toArray ty)) := by
  simp [Instr.alloc, hz, newVar, newRow, Value.cells]
theorem wp_allocC (hz : ∀ w, (zeroValue ty).run P w = .ok (.agg cs.toArray) w) (ho : o.op = .alloc ty)
    (hk : K (a.put o.dst (.pointer (some ⟨w.heap.size, 0, none⟩))) (w.alloc (.cells cs.toArray ty))) : o.wp P a w K Q := by
  unfold Oper.wp execOp
  simp only [ho, Sem.run_bind, run_allocC hz w, Result.andThen_ok, Sem.run_pure]
  exact hk
theorem wp_storeC (hi : (P.info? ty).map (·.size) = some n) (hd : o.dst = d) (x y : Operand) (ho : o.op = .store ty x y) (v : Value) (hv : v.cells = p.toArray) (h1 : ∀ u ∈ p, u.oneCell' = true) (h : CB w g t cs) (hp : p.length = n) (hl : off + n ≤ cs.length)
    (hx : a.eval x = .pointer (some ⟨g, off, none⟩)) (hy : a.eval y = v)
    (hk : ∀ w', CB w' g t (over cs off p) → w.grownBy w' (some g) → K (a.put d undef) w') : o.wp P a w K Q := by
  subst hd
  unfold Oper.wp execOp
  simp only [ho, hx, hy, Instr.storeAt, Instr.sureAddr, Sem.run_bind, Sem.run_pure, Result.andThen_ok, run_storeC hi v hv h1 h hp hl]
  exact hk _ (h.over off p) (grown_setRow _ _ _)
end
theorem results_C1 {w : World} {cs : List Value} {fn : Func} {p : Tmp} {n g : Nat} {t ty : TypeId} (hr : fn.results = #[.cell p ty]) (tmps : Array Value) (hT : AggT Try.prog ty n) (h : CB w g t cs) (hl : cs.length = n) (hp : tmps.getD p undef = .pointer (some ⟨g, 0, none⟩)) :
    (results fn tmps).run Try.prog w = .ok (.agg cs.toArray) w := by
  have hp' : tmps[p]?.getD undef = .pointer (some ⟨g, 0, none⟩) := by simpa using hp
  have hld := run_loadC (P := Try.prog) (p := cs) (off := 0) hT h (by rw [List.drop_zero]; exact List.take_of_length_le (by omega)) (by omega)
  simp [results, hr, hp', asAddr, hld]
theorem szB : (Try.prog.info? 22).map (·.size) = some 1 := by kernel_rfl
theorem zeroF (w : World) : (zeroValue 24).run Try.prog w = .ok (.agg #[.int .i64 0, .slice none 0 0]) w := by kernel_rfl
theorem run_buildF (x : Int) (A : Option Addr) (m c : Nat) (w : World) : (Instr.build 24 #[(0, .int .i64 x), (1, .slice A m c)]).run Try.prog w = .ok (.agg #[.int .i64 x, .slice A m c]) w := by kernel_rfl
def WhlF (r b off n cap x0 m : Nat) (q : Addr) (l : List UInt8) (ws : Nat) : Nat → Value → World → Prop
  | 0, v, _ => v = .pointer (some ⟨r, 0, none⟩)
  | 1, v, _ => v = .pointer (some ⟨r, 0, none⟩)
  | 2, v, _ => v = .pointer (some ⟨r, 0, none⟩)
  | 3, v, _ => v = .slice (some ⟨b, off, none⟩) n cap
  | 4, v, _ => v = .pointer (some ⟨b, off, none⟩)
  | 5, v, _ => v = .int .u8 (x0 : Int)
  | 6, v, _ => v = .int .i64 (x0 : Int)
  | 7, v, _ => v = .pointer (some ⟨r, 0, none⟩)
  | 8, v, _ => v = .pointer (some ⟨r, 0, none⟩)
  | 9, v, _ => v = .pointer (some ⟨r, 0, none⟩)
  | 10, v, _ => v = .slice (some ⟨b, off, none⟩) n cap
  | 11, v, _ => v = .slice (some q) m (cap - 3)
  | 12, v, x => ∃ A c, v = .slice A m c ∧ OwnB x ws 5 (.slice A m c) l
  | 13, v, x => ∃ A c, v = .agg #[.int .i64 (x0 : Int), .slice A m c] ∧ OwnB x ws 5 (.slice A m c) l
  | 14, v, x => ∃ g, v = .pointer (some ⟨g, 0, none⟩) ∧ ws + 1 ≤ g ∧ CB x g 24 [.int .i64 0, .slice none 0 0]
  | 15, _, _ => True
  | _, _, _ => True
theorem WhlF.kept {r b off n cap x0 m : Nat} {q : Addr} {l : List UInt8} {ws : Nat} : ∀ (j : Nat) (v : Value) (x y : World), x.grownBy y none → WhlF r b off n cap x0 m q l ws j v x → WhlF r b off n cap x0 m q l ws j v y
  | 0, _, _, _, _, h => h
  | 1, _, _, _, _, h => h
  | 2, _, _, _, _, h => h
  | 3, _, _, _, _, h => h
  | 4, _, _, _, _, h => h
  | 5, _, _, _, _, h => h
  | 6, _, _, _, _, h => h
  | 7, _, _, _, _, h => h
  | 8, _, _, _, _, h => h
  | 9, _, _, _, _, h => h
  | 10, _, _, _, _, h => h
  | 11, _, _, _, _, h => h
  | 12, v, x, y, hg, h => by obtain ⟨A, c, h1, h2⟩ := h; exact ⟨A, c, h1, h2.none_ hg⟩
  | 13, v, x, y, hg, h => by obtain ⟨A, c, h1, h2⟩ := h; exact ⟨A, c, h1, h2.none_ hg⟩
  | 14, v, x, y, hg, h => by obtain ⟨g, h1, h2, h3⟩ := h; exact ⟨g, h1, h2, h3.kept hg⟩
  | 15, _, _, _, _, _ => trivial
  | _ + 16, _, _, _, _, h => by simp [WhlF]

set_option maxRecDepth 10000 in
set_option maxHeartbeats 4000000 in
theorem whole_any (w : World) (base r : Nat) (v : Value) (part : List UInt8) (e : Int) (h : RD w base r v part e) (h3 : 3 ≤ part.length) (hl : part.length ≤ 1000000000) :
    Calls Try.prog 44 #[.pointer (some ⟨r, 0, none⟩)] w fun e' w' => ∃ A c v', e' = .returned (.agg #[.int .i64 ((part.headD 0).toNat : Int), .slice A (part.drop 3).length c]) ∧
      OwnB w' w.heap.size 5 (.slice A (part.drop 3).length c) (part.drop 3) ∧ v'.ownBlock = v.ownBlock ∧ RD w' base r v' [] e ∧ w.grownBy w' (some r) := by
  obtain ⟨A, cap, rfl, hr, -⟩ := h.2.2.shape
  have c0 : w.cell? ⟨r, 0, none⟩ = some (.slice A part.length cap) := h.2.1.at_ rfl
  have hcut := hr.cut (k := 3) h3
  obtain ⟨b, off, rfl, hb, hc⟩ := hr.open_ (by omega)
  have hc0 := hc 0 (by omega)
  rw [Nat.add_zero] at hc0
  have hd0 : part.headD 0 = part[0] := by cases part with | nil => simp at h3 | cons x l => rfl
  obtain ⟨y0, hy0⟩ : ∃ y, y = part[0] := ⟨_, rfl⟩
  rw [← hy0] at hc0 hd0
  rw [hd0]
  have hpi : (0 : Int) < (part.length : Int) := by omega
  have h3i : (3 : Int) ≤ (part.length : Int) := by omega
  have hx0 := y0.toNat_lt
  have hlc : part.length ≤ cap := hr.1
  have hcm : cap ≤ 9223372036854775807 := hr.2.1
  have hci : (part.length : Int) ≤ (cap : Int) := by omega
  obtain ⟨q, hq⟩ : ∃ q, (if cap = 3 then some (⟨b, off, none⟩ : Addr) else some ⟨b, off + 3, none⟩) = some q := by split <;> exact ⟨_, rfl⟩
  have HR := Lib.hid (show RB w w.heap.size (some q) (part.drop 3) (cap - 3) by
    rw [show (if cap = 3 then some (⟨b, off, none⟩ : Addr) else (some (⟨b, off, none⟩ : Addr)).map (·.add 3)) = some q by rw [← hq, Option.map_some, Addr.add_lit]] at hcut
    exact hcut)
  obtain ⟨n, hn⟩ : ∃ n, part.length = n := ⟨_, rfl⟩
  rw [hn] at h
  have HP := Lib.hid h
  obtain ⟨m, hm⟩ : ∃ m, n - 3 = m := ⟨_, rfl⟩
  have HL3 := Lib.hid (show (part.drop 3).length = m by rw [List.length_drop, hn, hm])
  rw [HL3.out]
  rw [hn] at hpi h3i hci c0 hl h3 hlc
  have HCAP := Lib.hid (show 3 ≤ n ∧ n ≤ cap ∧ cap ≤ 9223372036854775807 from ⟨h3, hlc, hcm⟩)
  have HBD := Lib.hid (fun A c x => run_buildF (y0.toNat : Int) A m c x)
  have H3I := Lib.hid h3i
  have hn0 : 0 < n := by omega
  have hwx : IntKind.i64.wrap (y0.toNat : Int) = (y0.toNat : Int) := by simp [IntKind.wrap, IntKind.bits, IntKind.signed]; omega
  have HQ := Lib.hid hq
  have HCI := Lib.hid hci
  have HMB := Lib.hid (show m ≤ 140737488355328 by omega)
  clear h hr hb hc hcut hy0 hd0 hn h3 hl hlc hcm hq
  generalize y0.toNat = x0 at *
  obtain ⟨w1, hw1⟩ : ∃ x, w.alloc (.cells #[.int .i64 0, .slice none 0 0] 24) = x := ⟨_, rfl⟩
  have G1 := Lib.hid (show w.grownBy w1 none by rw [← hw1]; exact grown_alloc _ _ _)
  have C0 := Lib.hid (keepC G1.out c0)
  have C1 := Lib.hid (keepC G1.out hc0)
  have HS1 := Lib.hid (show w1.heap.size = w.heap.size + 1 by rw [← hw1, World.size_alloc])
  have HCL := Lib.hid (fun W (hg : w1.grownBy W none) => clone_any (some q) (part.drop 3) (cap - 3) m W HL3.out (((HR.out.grown (grown_trans' G1.out hg) (Nat.le_refl _) (fun _ e => by cases e))).more (grown_trans' G1.out hg).size) HMB.out)
  obtain ⟨l, hl⟩ : ∃ l, part.drop 3 = l := ⟨_, rfl⟩
  rw [hl] at HCL HR HL3 ⊢
  obtain ⟨ws, hws⟩ : ∃ ws, w.heap.size = ws := ⟨_, rfl⟩
  rw [hws]
  have HWS := Lib.hid hws
  go_enter Try.func44, Try.ntmps44
  go_wp2
  refine region_last 15 [some 4, some 5, some 6, some 7, some 8, some 9, some 10, some 11, some 12, some 13, some 14, some 15, some 16, some 17, some 3, none] (fun x => w1.grownBy x none) (WhlF r b off n cap x0 m q l ws) (fun vs x => ∃ g A c, vs 14 = .pointer (some ⟨g, 0, none⟩) ∧ ws + 1 ≤ g ∧ CB x g 24 [.int .i64 (x0 : Int), .slice A m c] ∧ OwnB x ws 5 (.slice A m c) l ∧ w1.grownBy x none) (by kernel_rfl) (by kernel_rfl) rfl (by kernel_rfl) (by kernel_rfl) (fun x y hg h => grown_trans' h hg) (fun j v x y hg _ h => WhlF.kept j v x y hg h) (grown_drew (World.grownBy.refl w1 none)) ⟨⟨⟨⟨⟨⟨⟨⟨⟨⟨⟨⟨⟨⟨⟨trivial, ?_⟩, ?_⟩, ?_⟩, ?_⟩, ?_⟩, ?_⟩, ?_⟩, ?_⟩, ?_⟩, ?_⟩, ?_⟩, ?_⟩, ?_⟩, ?_⟩, ?_⟩ ?_ (fun vs vs' x hj ⟨g, A, c, h1, h⟩ => ⟨g, A, c, by rw [← hj 14 (by omega)]; exact h1, h⟩) ?_
  · refine Inv.duty_plain rfl rfl (fun L vs a x hG dep up val ev out K hK => ?_)
    have e0 : a.eval (.tmp 0) = .pointer (some ⟨r, 0, none⟩) := (out 0 (by kernel_rfl)).trans rfl
    refine Inv.wp_value (v := .pointer (some ⟨r, 0, none⟩)) ?_ (hK.out _ _ (World.grownBy.refl x _) rfl)
    clear hK K dep up val ev out
    generalize a.eval = ρ at *
    (simp [execOp, go_sem, *]; done)
  · refine Inv.duty_plain rfl rfl (fun L vs a x hG dep up val ev out K hK => ?_)
    have L4 := dep 0 (by kernel_rfl)
    have e4 : a.eval (.tmp 4) = .pointer (some ⟨r, 0, none⟩) := (ev 0 4 L4 (by kernel_rfl)).trans (val 0 L4)
    refine Inv.wp_value (v := .pointer (some ⟨r, 0, none⟩)) ?_ (hK.out _ _ (World.grownBy.refl x _) rfl)
    clear hK K dep up val ev out
    generalize a.eval = ρ at *
    (simp [execOp, go_sem, *]; done)
  · refine Inv.duty_plain rfl rfl (fun L vs a x hG dep up val ev out K hK => ?_)
    have L5 := dep 1 (by kernel_rfl)
    have e5 : a.eval (.tmp 5) = .pointer (some ⟨r, 0, none⟩) := (ev 1 5 L5 (by kernel_rfl)).trans (val 1 L5)
    refine Inv.wp_value (v := .pointer (some ⟨r, 0, none⟩)) ?_ (hK.out _ _ (World.grownBy.refl x _) rfl)
    clear hK K dep up val ev out
    generalize a.eval = ρ at *
    (simp [execOp, go_sem, *]; done)
  · refine Inv.duty_plain rfl rfl (fun L vs a x hG dep up val ev out K hK => ?_)
    have L6 := dep 2 (by kernel_rfl)
    have e6 : a.eval (.tmp 6) = .pointer (some ⟨r, 0, none⟩) := (ev 2 6 L6 (by kernel_rfl)).trans (val 2 L6)
    have hgx : w1.grownBy x none := hG
    have hc := keepC hgx C0.out
    refine Inv.wp_value (v := .slice (some ⟨b, off, none⟩) n cap) ?_ (hK.out _ _ (World.grownBy.refl x _) rfl)
    clear hG hgx hK K dep up val ev out
    generalize a.eval = ρ at *
    (simp [execOp, go_sem, *]; done)
  · refine Inv.duty_plain rfl rfl (fun L vs a x hG dep up val ev out K hK => ?_)
    have ek : ∀ u, a.eval (.const u) = u := fun _ => rfl
    have L7 := dep 3 (by kernel_rfl)
    have e7 : a.eval (.tmp 7) = .slice (some ⟨b, off, none⟩) n cap := (ev 3 7 L7 (by kernel_rfl)).trans (val 3 L7)
    refine Inv.wp_value (v := .pointer (some ⟨b, off, none⟩)) ?_ (hK.out _ _ (World.grownBy.refl x _) rfl)
    clear hK K dep up val ev out
    generalize a.eval = ρ at *
    (simp [execOp, go_sem, *]; done)
  · refine Inv.duty_plain rfl rfl (fun L vs a x hG dep up val ev out K hK => ?_)
    have L8 := dep 4 (by kernel_rfl)
    have e8 : a.eval (.tmp 8) = .pointer (some ⟨b, off, none⟩) := (ev 4 8 L8 (by kernel_rfl)).trans (val 4 L8)
    have hgx : w1.grownBy x none := hG
    have hc := keepC hgx C1.out
    refine Inv.wp_value (v := .int .u8 (x0 : Int)) ?_ (hK.out _ _ (World.grownBy.refl x _) rfl)
    clear hG hgx hK K dep up val ev out
    generalize a.eval = ρ at *
    (simp [execOp, go_sem, *]; done)
  · refine Inv.duty_plain rfl rfl (fun L vs a x hG dep up val ev out K hK => ?_)
    have L9 := dep 5 (by kernel_rfl)
    have e9 : a.eval (.tmp 9) = .int .u8 (x0 : Int) := (ev 5 9 L9 (by kernel_rfl)).trans (val 5 L9)
    refine Inv.wp_value (v := .int .i64 (x0 : Int)) ?_ (hK.out _ _ (World.grownBy.refl x _) rfl)
    clear hK K dep up val ev out
    generalize a.eval = ρ at *
    (simp [execOp, go_sem, *]; done)
  · refine Inv.duty_plain rfl rfl (fun L vs a x hG dep up val ev out K hK => ?_)
    have e0 : a.eval (.tmp 0) = .pointer (some ⟨r, 0, none⟩) := (out 0 (by kernel_rfl)).trans rfl
    refine Inv.wp_value (v := .pointer (some ⟨r, 0, none⟩)) ?_ (hK.out _ _ (World.grownBy.refl x _) rfl)
    clear hK K dep up val ev out
    generalize a.eval = ρ at *
    (simp [execOp, go_sem, *]; done)
  · refine Inv.duty_plain rfl rfl (fun L vs a x hG dep up val ev out K hK => ?_)
    have L11 := dep 7 (by kernel_rfl)
    have e11 : a.eval (.tmp 11) = .pointer (some ⟨r, 0, none⟩) := (ev 7 11 L11 (by kernel_rfl)).trans (val 7 L11)
    refine Inv.wp_value (v := .pointer (some ⟨r, 0, none⟩)) ?_ (hK.out _ _ (World.grownBy.refl x _) rfl)
    clear hK K dep up val ev out
    generalize a.eval = ρ at *
    (simp [execOp, go_sem, *]; done)
  · refine Inv.duty_plain rfl rfl (fun L vs a x hG dep up val ev out K hK => ?_)
    have L12 := dep 8 (by kernel_rfl)
    have e12 : a.eval (.tmp 12) = .pointer (some ⟨r, 0, none⟩) := (ev 8 12 L12 (by kernel_rfl)).trans (val 8 L12)
    refine Inv.wp_value (v := .pointer (some ⟨r, 0, none⟩)) ?_ (hK.out _ _ (World.grownBy.refl x _) rfl)
    clear hK K dep up val ev out
    generalize a.eval = ρ at *
    (simp [execOp, go_sem, *]; done)
  · refine Inv.duty_plain rfl rfl (fun L vs a x hG dep up val ev out K hK => ?_)
    have L13 := dep 9 (by kernel_rfl)
    have e13 : a.eval (.tmp 13) = .pointer (some ⟨r, 0, none⟩) := (ev 9 13 L13 (by kernel_rfl)).trans (val 9 L13)
    have hgx : w1.grownBy x none := hG
    have hc := keepC hgx C0.out
    refine Inv.wp_value (v := .slice (some ⟨b, off, none⟩) n cap) ?_ (hK.out _ _ (World.grownBy.refl x _) rfl)
    clear hG hgx hK K dep up val ev out
    generalize a.eval = ρ at *
    (simp [execOp, go_sem, *]; done)
  · refine Inv.duty_plain rfl rfl (fun L vs a x hG dep up val ev out K hK => ?_)
    have ek : ∀ u, a.eval (.const u) = u := fun _ => rfl
    have L14 := dep 10 (by kernel_rfl)
    have e14 : a.eval (.tmp 14) = .slice (some ⟨b, off, none⟩) n cap := (ev 10 14 L14 (by kernel_rfl)).trans (val 10 L14)
    have e1 : (3 : Int) ≤ (n : Int) := H3I.out
    have hq := HQ.out
    refine Inv.wp_value (v := .slice (some q) m (cap - 3)) ?_ (hK.out _ _ (World.grownBy.refl x _) rfl)
    clear hG hK K dep up val ev out
    generalize a.eval = ρ at *
    (simp [execOp, go_sem, *]; done)
  · refine Inv.duty_plain rfl rfl (fun L vs a x hG dep up val ev out K hK => ?_)
    have ef : ∀ f, a.eval (.func f) = .func (.func f) #[] #[] := fun _ => rfl
    have L15 := dep 11 (by kernel_rfl)
    have e15 : a.eval (.tmp 15) = .slice (some q) m (cap - 3) := (ev 11 15 L15 (by kernel_rfl)).trans (val 11 L15)
    have hgx : w1.grownBy x none := hG
    refine Inv.wp_call (by clear hG hgx hK K dep up val ev out; generalize a.eval = ρ at *; (simp [execOp, go_sem, *]; done)) ((HCL.out x hgx).mono ?_)
    rintro e w' ⟨A, c, rfl, o1, b1⟩
    exact ⟨_, rfl, hK.out _ _ (none_of_below b1 (Nat.le_refl _)) ⟨A, c, rfl, o1.base_ (by have := hgx.size; have := HS1.out; have := HWS.out; omega)⟩⟩
  · refine Inv.duty_plain rfl rfl (fun L vs a x hG dep up val ev out K hK => ?_)
    have L10 := dep 6 (by kernel_rfl)
    have e10 : a.eval (.tmp 10) = .int .i64 (x0 : Int) := (ev 6 10 L10 (by kernel_rfl)).trans (val 6 L10)
    have L16 := dep 12 (by kernel_rfl)
    have e16 := ev 12 16 L16 (by kernel_rfl)
    have f16 := val 12 L16
    obtain ⟨A, c, hv, ho⟩ := f16
    rw [hv] at e16
    refine Inv.wp_value (v := .agg #[.int .i64 (x0 : Int), .slice A m c]) ?_ (hK.out _ _ (World.grownBy.refl x _) ⟨A, c, rfl, ho⟩)
    have hbd := HBD.out A c x
    clear hG hK K dep up val ev out
    generalize a.eval = ρ at *
    (simp [execOp, *]; done)
  · refine Inv.duty_plain rfl rfl (fun L vs a x hG dep up val ev out K hK => ?_)
    have hgx : w1.grownBy x none := hG
    exact wp_allocC zeroF rfl (hK.out _ _ (grown_alloc _ _ _) ⟨_, rfl, by have := hgx.size; have := HS1.out; have := HWS.out; omega, CB.new x _ _⟩)
  · intro o ho
    injection ho with ho
    subst ho
    refine ⟨rfl, fun vs a x hG hF ev out K hK => ?_⟩
    obtain ⟨g, hv14, hgb, hcb⟩ := hF 14 (by omega)
    obtain ⟨A, c, hv13, ho13⟩ := hF 13 (by omega)
    have hgx : w1.grownBy x none := hG
    have e3 : a.eval (.tmp 3) = .pointer (some ⟨g, 0, none⟩) := (ev 14 3 (by omega) (by kernel_rfl)).trans hv14
    have e17 : a.eval (.tmp 17) = .agg #[.int .i64 (x0 : Int), .slice A m c] := (ev 13 17 (by omega) (by kernel_rfl)).trans hv13
    refine wp_storeC (off := 0) (p := [.int .i64 (x0 : Int), .slice A m c]) aggF.hi rfl (.tmp 3) (.tmp 17) rfl _ rfl (fun u hu => by simp at hu; rcases hu with rfl | rfl <;> rfl) hcb rfl (by simp) e3 e17 ?_
    intro w4 h4 g4
    exact hK.out _ _ ⟨g, A, c, hv14, hgb, h4, OwnB.mod ho13 (Mod.of_grown g4) (fun z hz e => ho13.ne_cells hcb (by decide) (by rw [hz]; exact e)), none_new hgx g4 (by have := HS1.out; have := HWS.out; omega)⟩
  rintro vs w2 ⟨g, A, c, hv14, hgb, h2, o2, g2⟩
  have C2 := Lib.hid h2
  have O2 := Lib.hid o2
  have G2 := Lib.hid (grown_trans' G1.out g2)
  have GB := Lib.hid hgb
  have R2 := Lib.hid (HP.out.made G2.out)
  have RS := Lib.hid (show CB w2 ws 24 [.int .i64 0, .slice none 0 0] from CB.kept (by rw [← hw1, ← hws]; exact CB.new w _ _) g2)
  have k0 : w2.cell? ⟨r, 0, none⟩ = some (.slice (some ⟨b, off, none⟩) n cap) := R2.out.2.1.at_ rfl
  have HRW := Lib.hid (show r < ws by rw [← hws]; exact HP.out.lt.2)
  clear h2 o2 g2 hgb hw1
  simp only [Inv.putAll, Act.put, List.setIfInBounds_toArray, List.set_cons_zero, List.set_cons_succ, Nat.zero_add, Nat.reduceAdd]
  rw [hv14]
  clear hv14
  generalize vs 0 = u0, vs 1 = u1, vs 2 = u2, vs 3 = u3, vs 4 = u4, vs 5 = u5, vs 6 = u6, vs 7 = u7, vs 8 = u8, vs 9 = u9, vs 10 = u10, vs 11 = u11, vs 12 = u12, vs 13 = u13, vs 15 = u15
  clear vs
  go_wp2_with (first
    | (refine wpList_storeC (off := 0) (p := [.slice (some ⟨b, off, none⟩) 0 cap]) szB rfl (.tmp 25) (.tmp 23) rfl (.slice (some ⟨b, off, none⟩) 0 cap) rfl (fun u hu => by rw [List.mem_singleton.1 hu]; rfl) R2.out.2.1 rfl (by simp) (by first | rfl | go_simp) (by first | rfl | go_simp) ?_; intro w3 h3 g3; have C3 := Lib.hid h3; have G3 := Lib.hid g3; have F3 := Lib.hid (C2.out.grown g3 (by have := GB.out; have := HRW.out; omega)); have S3 := Lib.hid (RS.out.grown g3 (by have := HRW.out; omega)); clear h3 g3)
    | refine wpList_loadC (off := 0) (p := [.int .i64 (x0 : Int), .slice A m c]) aggF rfl (.tmp 3) rfl F3.out rfl (by simp) (by first | rfl | go_simp) ?_
    | (refine wpList_storeC (off := 0) (p := [.int .i64 (x0 : Int), .slice A m c]) aggF.hi rfl (.tmp 2) (.tmp 26) rfl (.agg #[.int .i64 (x0 : Int), .slice A m c]) rfl (fun u hu => by simp at hu; rcases hu with rfl | rfl <;> rfl) S3.out rfl (by simp) (by first | rfl | go_simp) (by first | rfl | go_simp) ?_; intro w4 h4 g4; have C4 := Lib.hid h4; have G4 := Lib.hid g4; clear h4 g4))
  refine bodyPost_ret (results_C1 rfl _ aggF C4.out rfl rfl) rfl ?_
  have hne : ∀ z, some z = (Value.slice A m c).ownBlock → z ≠ r ∧ z ≠ ws := by
    intro z hz
    exact ⟨fun e => O2.out.ne_cells R2.out.2.1 (by decide) (by rw [← hz, e]), fun e => O2.out.ne_cells RS.out (by decide) (by rw [← hz, e])⟩
  have o4 : OwnB w4 ws 5 (.slice A m c) l := (O2.out.mod (Mod.of_grown G3.out) (fun z hz e => (hne z hz.symm).1 (by injection e))).mod (Mod.of_grown G4.out) (fun z hz e => (hne z hz.symm).2 (by injection e))
  have hrd := R2.out
  refine ⟨A, c, .slice (some ⟨b, off, none⟩) 0 cap, rfl, o4, rfl, ⟨hrd.1, C3.out.grown G4.out (by have := HRW.out; omega), ?_⟩, ?_⟩
  · have h5 := hrd.2.2.cut0
    have hvl := hrd.vlt
    refine (h5.mod (Mod.of_grown G3.out) (fun z hz e => (hvl z hz).2.2 (by injection e))).mod (Mod.of_grown G4.out) (fun z hz e => ?_)
    have h6 := HP.out.vlt z hz
    injection e with e
    have := HWS.out
    omega
  · have g23 := grown_trans' (grown_some G2.out r) G3.out
    exact grown_new g23 G4.out (by rw [HWS.out]; exact Nat.le_refl _)
end Go.Proofs.Ytajfaplaaafjiaa
