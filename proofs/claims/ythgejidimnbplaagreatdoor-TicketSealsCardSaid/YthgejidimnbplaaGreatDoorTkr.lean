/- The walks of ticket's Read, ReadAuth and ReadGrant. -/
import Derived.Test.YthgejidimnbplaaGreatDoorTkw
import Derived.Test.YthgejidimnbplaaGreatDoorTks
import Derived.Test.YthgejidimnbplaaGreatDoorBrN
namespace Go.Proofs.YthgejidimnbplaaGreatDoor
open Go.RowKit

theorem RS.over {w w' : World} {A : Option Addr} {ls : List (List UInt8)} {c : Nat} (h : RS w w.heap.size A ls c) (hb : Below w.heap.size w w') : RS w' w'.heap.size A ls c := (h.below hb).more hb.size
theorem valuesOf_le {l : List UInt8} {ts : List Int} {v : List UInt8} (hv : v ∈ (valuesOf l ts).1) : v.length ≤ l.length := by
  unfold valuesOf at hv
  split at hv
  · simp at hv
  · split at hv
    · obtain ⟨f, hf, rfl⟩ := List.mem_map.1 hv
      exact Nat.le_trans (len_of_tot _ f hf) (tot_splitOf l)
    · simp at hv
theorem valuesOf_length {l : List UInt8} {ts : List Int} (h : (valuesOf l ts).2 = 0) : (valuesOf l ts).1.length = ts.length := by
  unfold valuesOf at h ⊢
  split
  · rename_i h1; rw [if_pos h1] at h; exact absurd h h1
  · rename_i h1
    rw [if_neg h1] at h
    split
    · rename_i h2; rw [← h2]; simp
    · rename_i h2; rw [if_neg h2] at h; simp at h
/-- A region in which one block is written, and else only new memory is made. -/
def Wr1 (g : Nat) (t : TypeId) (R : List Value) (x y : World) : Prop := x.grownBy y none ∨ (x.grownBy y (some g) ∧ CB y g t R)
def Ws1 (w : World) (g : Nat) (t : TypeId) (n : Nat) (x : World) : Prop := Below w.heap.size w x ∧ ∃ cs, cs.length = n ∧ CB x g t cs
theorem Ws1.next {w : World} {g : Nat} {t : TypeId} {n : Nat} {R : List Value} (hg : w.heap.size ≤ g) (hR : R.length = n) : ∀ x y, Wr1 g t R x y → Ws1 w g t n x → Ws1 w g t n y := by
  rintro x y (h | ⟨h, hc⟩) ⟨hb, cs, hl, hcs⟩
  · exact ⟨hb.trans (below_row h hb.size (fun _ e => by cases e)), cs, hl, hcs.kept h⟩
  · exact ⟨hb.trans (below_row h hb.size (fun g' e => by injection e with e; omega)), R, hR, hc⟩
theorem CB.wr1 {g : Nat} {t : TypeId} {R : List Value} {x y : World} (h : Wr1 g t R x y) (hc : CB x g t R) : CB y g t R := by
  rcases h with h | ⟨_, h⟩
  · exact hc.kept h
  · exact h
theorem Wr1.refl {g : Nat} {t : TypeId} {R : List Value} (x : World) : Wr1 g t R x x := .inl (World.grownBy.refl x _)
/-- A region by its operations' duties, whatever may become of the world in them. -/
theorem region_by {P : Program} {ops : Array Oper} {Q : Exit → Act → World → Prop} {a0 : Act} {id : Nat} {w : World} (n : Nat) (ds : List (Option Tmp)) (T : World → World → Prop) (G : World → Prop) (F : Nat → Value → World → Prop) (hm : P.follows .mixedOrders = true) (hok : Inv.okB ops a0.tmps.size = true) (hn : ops.size = n) (hds : (List.range n).map (Inv.dstOf ops) = ds)
    (hG : ∀ x y, T x y → G x → G y) (hF : ∀ j v x y, T x y → G x → F j v x → F j v y) (h0 : G w.drew)
    (step : Inv.Duties P ops Q a0 T G F n)
    (fin : ∀ vs w', G w' → (∀ i, i < n → F i (vs i) w') → Q .normal (Inv.putAll vs ds 0 a0) w') : (Code.region id ops true).wp P Q a0 w := by
  subst hn
  refine Inv.region_inv T G F hm hok hG hF h0 (Inv.duties_all step) (fun vs w' hg hf => ?_)
  rw [Inv.canon_putAll, hds]
  exact fin vs w' hg hf
theorem wp_convV {P : Program} {o : Oper} {a : Act} {w : World} {K : Act → World → Prop} {Q : Exit → Act → World → Prop} {src dst : TypeId} {u v : Value} (x : Operand) (ho : o.op = .convert src dst x) (hx : a.eval x = u) (hr : (convert src dst u).run P w = .ok v w) (hk : K (a.put o.dst v) w) : o.wp P a w K Q := by
  unfold Oper.wp execOp
  simp only [ho, hx, Sem.run_bind, Sem.run_pure, Result.andThen_ok, hr]
  exact hk
theorem wp_buildV {P : Program} {o : Oper} {a : Act} {w : World} {K : Act → World → Prop} {Q : Exit → Act → World → Prop} {t : TypeId} {parts : Array (Nat × Operand)} {ps : Array (Nat × Value)} {v : Value} (ho : o.op = .build t parts) (hp : parts.map (fun z => (z.1, a.eval z.2)) = ps) (hr : (Instr.build t ps).run P w = .ok v w) (hk : K (a.put o.dst v) w) : o.wp P a w K Q := by
  unfold Oper.wp execOp
  have hp' : parts.map (fun (i, x) => (i, a.eval x)) = ps := hp
  simp only [ho, hp', Sem.run_bind, Sem.run_pure, Result.andThen_ok, hr]
  exact hk
theorem six {α : Type} {l : List α} (h : l.length = 6) : ∃ a b c d e f, l = [a, b, c, d, e, f] :=
  match l, h with
  | [a, b, c, d, e, f], _ => ⟨a, b, c, d, e, f, rfl⟩
theorem four {α : Type} {l : List α} (h : l.length = 4) : ∃ a b c d, l = [a, b, c, d] :=
  match l, h with
  | [a, b, c, d], _ => ⟨a, b, c, d, rfl⟩
theorem sixteen {α : Type} {l : List α} (h : l.length = 16) : ∃ a b c d e f g i j k m n o p q r, l = [a, b, c, d, e, f, g, i, j, k, m, n, o, p, q, r] :=
  match l, h with
  | [a, b, c, d, e, f, g, i, j, k, m, n, o, p, q, r], _ => ⟨a, b, c, d, e, f, g, i, j, k, m, n, o, p, q, r, rfl⟩
def ba (l : List UInt8) : ByteArray := ⟨l.toArray⟩
theorem ba_data (l : List UInt8) : (ba l).data.toList = l := rfl
def i64w (n : Nat) : Int := IntKind.i64.wrap (n : Int)

/-! Ticket. -/
def tMade (vs : List (List UInt8)) : List Value := tcells (ba (vs.getD 0 [])) (ba (vs.getD 1 [])) (keyB (vs.getD 2 [])) (i64w (readOf (vs.getD 3 [])).1) (i64w (readOf (vs.getD 4 [])).1) (i64w (readOf (vs.getD 5 [])).1)
theorem tMade_length (vs : List (List UInt8)) : (tMade vs).length = 21 := tcells_length _ _ _ _ _ _ (keyB_length _)
def tZero : List Value := tcells ⟨#[]⟩ ⟨#[]⟩ (zeros 16) 0 0 0
theorem aggTr : AggT Tryz.prog 25 21 := ⟨fun w => by kernel_rfl, by kernel_rfl⟩
theorem zeroTr (w : World) : (zeroValue 25).run Tryz.prog w = .ok (.agg tZero.toArray) w := by kernel_rfl
theorem tZero_length : tZero.length = 21 := rfl
theorem run_buildT (c s : ByteArray) (k : List UInt8) (st en fl : Int) (hk : k.length = 16) (w : World) : (Instr.build 25 #[(0, .string c), (1, .string s), (2, .agg (bcells k).toArray), (3, .int .i64 st), (4, .int .i64 en), (5, .int .i64 fl)]).run Tryz.prog w = .ok (.agg (tcells c s k st en fl).toArray) w := by
  obtain ⟨a0, a1, a2, a3, a4, a5, a6, a7, a8, a9, a10, a11, a12, a13, a14, a15, rfl⟩ := sixteen hk
  kernel_rfl
theorem tcellsr_one (c s : ByteArray) (k : List UInt8) (st en fl : Int) : ∀ u ∈ tcells c s k st en fl, u.oneCell' = true := by
  intro u hu
  simp only [tcells, List.mem_append, List.mem_cons, List.not_mem_nil, or_false] at hu
  rcases hu with ((rfl | rfl) | h) | rfl | rfl | rfl
  · rfl
  · rfl
  · exact bcells_one _ u h
  · rfl
  · rfl
  · rfl
/-- What the closure's operations yield. -/
def TktR (bV oV cV : Nat) (V0 : Option Addr) (m0 c0 : Nat) (v0 : List UInt8) (V1 : Option Addr) (m1 c1 : Nat) (v1 : List UInt8) (V2 : Option Addr) (m2 c2 : Nat) (v2 : List UInt8) (V3 : Option Addr) (m3 c3 : Nat) (V4 : Option Addr) (m4 c4 : Nat) (V5 : Option Addr) (m5 c5 : Nat) (n3 : Nat) (n4 : Nat) (n5 : Nat) (RES : List Value) (g : Nat) : Nat → Value → World → Prop
  | 0, v, _ => v = .slice (some ⟨bV, oV, none⟩) 6 cV
  | 1, v, _ => v = .pointer (some ⟨bV, oV, none⟩)
  | 2, v, _ => v = .slice V0 m0 c0
  | 3, v, _ => v = .string (ba v0)
  | 4, v, _ => v = .slice (some ⟨bV, oV, none⟩) 6 cV
  | 5, v, _ => v = .pointer (some ⟨bV, oV + 1, none⟩)
  | 6, v, _ => v = .slice V1 m1 c1
  | 7, v, _ => v = .string (ba v1)
  | 8, v, _ => v = .slice (some ⟨bV, oV, none⟩) 6 cV
  | 9, v, _ => v = .pointer (some ⟨bV, oV + 2, none⟩)
  | 10, v, _ => v = .slice V2 m2 c2
  | 11, v, _ => v = .agg (bcells (keyB v2)).toArray
  | 12, v, _ => v = .slice (some ⟨bV, oV, none⟩) 6 cV
  | 13, v, _ => v = .pointer (some ⟨bV, oV + 3, none⟩)
  | 14, v, _ => v = .slice V3 m3 c3
  | 15, v, _ => v = .int .u64 (n3 : Int)
  | 16, v, _ => v = .int .i64 (IntKind.i64.wrap (n3 : Int))
  | 17, v, _ => v = .slice (some ⟨bV, oV, none⟩) 6 cV
  | 18, v, _ => v = .pointer (some ⟨bV, oV + 4, none⟩)
  | 19, v, _ => v = .slice V4 m4 c4
  | 20, v, _ => v = .int .u64 (n4 : Int)
  | 21, v, _ => v = .int .i64 (IntKind.i64.wrap (n4 : Int))
  | 22, v, _ => v = .slice (some ⟨bV, oV, none⟩) 6 cV
  | 23, v, _ => v = .pointer (some ⟨bV, oV + 5, none⟩)
  | 24, v, _ => v = .slice V5 m5 c5
  | 25, v, _ => v = .int .u64 (n5 : Int)
  | 26, v, _ => v = .int .i64 (IntKind.i64.wrap (n5 : Int))
  | 27, v, _ => v = .agg RES.toArray
  | 28, _, x => CB x g 25 RES
  | _, _, _ => True
theorem TktR.next {bV oV cV : Nat} {V0 : Option Addr} {m0 c0 : Nat} {v0 : List UInt8} {V1 : Option Addr} {m1 c1 : Nat} {v1 : List UInt8} {V2 : Option Addr} {m2 c2 : Nat} {v2 : List UInt8} {V3 : Option Addr} {m3 c3 : Nat} {V4 : Option Addr} {m4 c4 : Nat} {V5 : Option Addr} {m5 c5 : Nat} {n3 : Nat} {n4 : Nat} {n5 : Nat} {RES : List Value} {g : Nat} : ∀ (j : Nat) (v : Value) (x y : World), Wr1 g 25 RES x y → TktR bV oV cV V0 m0 c0 v0 V1 m1 c1 v1 V2 m2 c2 v2 V3 m3 c3 V4 m4 c4 V5 m5 c5 n3 n4 n5 RES g j v x → TktR bV oV cV V0 m0 c0 v0 V1 m1 c1 v1 V2 m2 c2 v2 V3 m3 c3 V4 m4 c4 V5 m5 c5 n3 n4 n5 RES g j v y
  | 0, _, _, _, _, h => h
  | 1, _, _, _, _, h => h
  | 2, _, _, _, _, h => h
  | 3, _, _, _, _, h => h
  | 4, _, _, _, _, h => h
  | 5, _, _, _, _, h => h
  | 6, _, _, _, _, h => h
  | 7, _, _, _, _, h => h
  | 8, _, _, _, _, h => h
  | 9, _, _, _, _, h => h
  | 10, _, _, _, _, h => h
  | 11, _, _, _, _, h => h
  | 12, _, _, _, _, h => h
  | 13, _, _, _, _, h => h
  | 14, _, _, _, _, h => h
  | 15, _, _, _, _, h => h
  | 16, _, _, _, _, h => h
  | 17, _, _, _, _, h => h
  | 18, _, _, _, _, h => h
  | 19, _, _, _, _, h => h
  | 20, _, _, _, _, h => h
  | 21, _, _, _, _, h => h
  | 22, _, _, _, _, h => h
  | 23, _, _, _, _, h => h
  | 24, _, _, _, _, h => h
  | 25, _, _, _, _, h => h
  | 26, _, _, _, _, h => h
  | 27, _, _, _, _, h => h
  | 28, _, _, _, hg, h => CB.wr1 hg h
  | _ + 29, _, _, _, _, _ => by simp [TktR]

set_option maxRecDepth 10000 in
set_option maxHeartbeats 2000000 in
theorem tmade_any (A : Option Addr) (cV : Nat) (vs : List (List UInt8)) (w : World) (hvs : vs.length = 6) (h : RS w w.heap.size A vs cV) :
    Calls Tryz.prog 32 #[.slice A 6 cV] w fun e w' => e = .returned (.agg (tMade vs).toArray) ∧ w.grownBy w' none := by
  obtain ⟨bV, oV, rfl, hbV, hc⟩ := h.open_ (by omega)
  obtain ⟨v0, v1, v2, v3, v4, v5, rfl⟩ := six hvs
  obtain ⟨V0, c0, q0, r0⟩ := hc 0 (by simp)
  obtain ⟨V1, c1, q1, r1⟩ := hc 1 (by simp)
  obtain ⟨V2, c2, q2, r2⟩ := hc 2 (by simp)
  obtain ⟨V3, c3, q3, r3⟩ := hc 3 (by simp)
  obtain ⟨V4, c4, q4, r4⟩ := hc 4 (by simp)
  obtain ⟨V5, c5, q5, r5⟩ := hc 5 (by simp)
  simp only [List.getElem_cons_zero, List.getElem_cons_succ, Nat.add_zero] at q0 r0 q1 r1 q2 r2 q3 r3 q4 r4 q5 r5
  obtain ⟨m0, hm0⟩ : ∃ m, v0.length = m := ⟨_, rfl⟩
  rw [hm0] at q0
  have HM0 := Lib.hid hm0
  have HQ0 := Lib.hid q0
  have HR0 := Lib.hid r0
  obtain ⟨m1, hm1⟩ : ∃ m, v1.length = m := ⟨_, rfl⟩
  rw [hm1] at q1
  have HM1 := Lib.hid hm1
  have HQ1 := Lib.hid q1
  have HR1 := Lib.hid r1
  obtain ⟨m2, hm2⟩ : ∃ m, v2.length = m := ⟨_, rfl⟩
  rw [hm2] at q2
  have HM2 := Lib.hid hm2
  have HQ2 := Lib.hid q2
  have HR2 := Lib.hid r2
  obtain ⟨m3, hm3⟩ : ∃ m, v3.length = m := ⟨_, rfl⟩
  rw [hm3] at q3
  have HM3 := Lib.hid hm3
  have HQ3 := Lib.hid q3
  have HR3 := Lib.hid r3
  obtain ⟨m4, hm4⟩ : ∃ m, v4.length = m := ⟨_, rfl⟩
  rw [hm4] at q4
  have HM4 := Lib.hid hm4
  have HQ4 := Lib.hid q4
  have HR4 := Lib.hid r4
  obtain ⟨m5, hm5⟩ : ∃ m, v5.length = m := ⟨_, rfl⟩
  rw [hm5] at q5
  have HM5 := Lib.hid hm5
  have HQ5 := Lib.hid q5
  have HR5 := Lib.hid r5
  obtain ⟨n3, hn3⟩ : ∃ n, (readOf v3).1 = n := ⟨_, rfl⟩
  have HN3 := Lib.hid hn3
  obtain ⟨n4, hn4⟩ : ∃ n, (readOf v4).1 = n := ⟨_, rfl⟩
  have HN4 := Lib.hid hn4
  obtain ⟨n5, hn5⟩ : ∃ n, (readOf v5).1 = n := ⟨_, rfl⟩
  have HN5 := Lib.hid hn5
  obtain ⟨RES, hres⟩ : ∃ RES, RES = tcells (ba v0) (ba v1) (keyB v2) (IntKind.i64.wrap (n3 : Int)) (IntKind.i64.wrap (n4 : Int)) (IntKind.i64.wrap (n5 : Int)) := ⟨_, rfl⟩
  have HRM := Lib.hid (show tMade [v0, v1, v2, v3, v4, v5] = RES by rw [hres, ← hn3, ← hn4, ← hn5]; rfl)
  have HRL := Lib.hid (show RES.length = 21 by rw [hres]; exact tcells_length _ _ _ _ _ _ (keyB_length _))
  have HRO := Lib.hid (show ∀ u ∈ RES, u.oneCell' = true by rw [hres]; exact tcellsr_one _ _ _ _ _ _)
  have HBD := Lib.hid (show ∀ W, (Instr.build 25 #[(0, .string (ba v0)), (1, .string (ba v1)), (2, .agg (bcells (keyB v2)).toArray), (3, .int .i64 (IntKind.i64.wrap (n3 : Int))), (4, .int .i64 (IntKind.i64.wrap (n4 : Int))), (5, .int .i64 (IntKind.i64.wrap (n5 : Int)))]).run Tryz.prog W = .ok (.agg RES.toArray) W from fun W => by rw [hres]; exact run_buildT _ _ _ _ _ _ (keyB_length _) W)
  have HBV := Lib.hid hbV
  rw [HRM.out]
  clear h hc hbV hres hvs q0 r0 hm0 q1 r1 hm1 q2 r2 hm2 q3 r3 hm3 q4 r4 hm4 q5 r5 hm5 hn3 hn4 hn5
  go_enter Tryz.func32, Tryz.ntmps32
  go_wp2_with (refine wpList_allocC zeroTr rfl rfl ?_)
  have HB0 := Lib.hid (show Below w.heap.size w (w.alloc (.cells tZero.toArray 25)).drew from ((Below.refl _ _).alloc (Nat.le_refl _) _).drew)
  have HC0 := Lib.hid (show CB (w.alloc (.cells tZero.toArray 25)).drew w.heap.size 25 tZero from CB.new w _ _)
  refine region_by (n := 29) (ds := [some 3, some 4, some 5, some 6, some 7, some 8, some 9, some 10, some 11, some 12, some 13, some 14, some 15, some 16, some 17, some 18, some 19, some 20, some 21, some 22, some 23, some 24, some 25, some 26, some 27, some 28, some 29, some 30, none]) (Wr1 w.heap.size 25 RES) (Ws1 w w.heap.size 25 21) (TktR bV oV cV V0 m0 c0 v0 V1 m1 c1 v1 V2 m2 c2 v2 V3 m3 c3 V4 m4 c4 V5 m5 c5 n3 n4 n5 RES w.heap.size) (by kernel_rfl) (by kernel_rfl) rfl (by kernel_rfl) (Ws1.next (Nat.le_refl _) HRL.out) (fun j v x y hg _ h => TktR.next j v x y hg h) ⟨HB0.out, _, tZero_length, HC0.out⟩ ⟨⟨⟨⟨⟨⟨⟨⟨⟨⟨⟨⟨⟨⟨⟨⟨⟨⟨⟨⟨⟨⟨⟨⟨⟨⟨⟨⟨⟨trivial, ?_⟩, ?_⟩, ?_⟩, ?_⟩, ?_⟩, ?_⟩, ?_⟩, ?_⟩, ?_⟩, ?_⟩, ?_⟩, ?_⟩, ?_⟩, ?_⟩, ?_⟩, ?_⟩, ?_⟩, ?_⟩, ?_⟩, ?_⟩, ?_⟩, ?_⟩, ?_⟩, ?_⟩, ?_⟩, ?_⟩, ?_⟩, ?_⟩, ?_⟩ ?_
  · refine Inv.duty_plain rfl rfl (fun L vs a x hG dep up val ev out K hK => ?_)
    obtain ⟨hW, cs, hcl, hB⟩ := hG
    have e0 : a.eval (.tmp 0) = .slice (some ⟨bV, oV, none⟩) 6 cV := (out 0 (by kernel_rfl)).trans rfl
    refine Inv.wp_value (v := .slice (some ⟨bV, oV, none⟩) 6 cV) ?_ (hK.out _ _ (Wr1.refl x) rfl)
    clear hK K dep up val ev out
    generalize a.eval = ρ at *
    (simp [execOp, go_sem, *]; done)
  · refine Inv.duty_plain rfl rfl (fun L vs a x hG dep up val ev out K hK => ?_)
    obtain ⟨hW, cs, hcl, hB⟩ := hG
    have ek : ∀ u, a.eval (.const u) = u := fun _ => rfl
    have L3 := dep 0 (by kernel_rfl)
    have e3 : a.eval (.tmp 3) = .slice (some ⟨bV, oV, none⟩) 6 cV := (ev 0 3 L3 (by kernel_rfl)).trans (val 0 L3)
    refine Inv.wp_value (v := .pointer (some ⟨bV, oV, none⟩)) ?_ (hK.out _ _ (Wr1.refl x) rfl)
    clear hK K dep up val ev out
    generalize a.eval = ρ at *
    (simp [execOp, go_sem, *]; done)
  · refine Inv.duty_plain rfl rfl (fun L vs a x hG dep up val ev out K hK => ?_)
    obtain ⟨hW, cs, hcl, hB⟩ := hG
    have L4 := dep 1 (by kernel_rfl)
    have e4 : a.eval (.tmp 4) = .pointer (some ⟨bV, oV, none⟩) := (ev 1 4 L4 (by kernel_rfl)).trans (val 1 L4)
    have hcell : x.cell? ⟨bV, oV, none⟩ = some (.slice V0 m0 c0) := (hW.cell HBV.out).trans HQ0.out
    refine Inv.wp_value (v := .slice V0 m0 c0) ?_ (hK.out _ _ (Wr1.refl x) rfl)
    clear hK K dep up val ev out
    generalize a.eval = ρ at *
    (simp [execOp, go_sem, *]; done)
  · refine Inv.duty_plain rfl rfl (fun L vs a x hG dep up val ev out K hK => ?_)
    obtain ⟨hW, cs, hcl, hB⟩ := hG
    have L5 := dep 2 (by kernel_rfl)
    have e5 : a.eval (.tmp 5) = .slice V0 m0 c0 := (ev 2 5 L5 (by kernel_rfl)).trans (val 2 L5)
    have s1 := run_strB byteT Tryz.underlying9 (HR0.out.below hW)
    rw [HM0.out] at s1
    exact wp_convV (.tmp 5) rfl e5 s1 (hK.out _ _ (Wr1.refl x) rfl)
  · refine Inv.duty_plain rfl rfl (fun L vs a x hG dep up val ev out K hK => ?_)
    obtain ⟨hW, cs, hcl, hB⟩ := hG
    have e0 : a.eval (.tmp 0) = .slice (some ⟨bV, oV, none⟩) 6 cV := (out 0 (by kernel_rfl)).trans rfl
    refine Inv.wp_value (v := .slice (some ⟨bV, oV, none⟩) 6 cV) ?_ (hK.out _ _ (Wr1.refl x) rfl)
    clear hK K dep up val ev out
    generalize a.eval = ρ at *
    (simp [execOp, go_sem, *]; done)
  · refine Inv.duty_plain rfl rfl (fun L vs a x hG dep up val ev out K hK => ?_)
    obtain ⟨hW, cs, hcl, hB⟩ := hG
    have ek : ∀ u, a.eval (.const u) = u := fun _ => rfl
    have L7 := dep 4 (by kernel_rfl)
    have e7 : a.eval (.tmp 7) = .slice (some ⟨bV, oV, none⟩) 6 cV := (ev 4 7 L7 (by kernel_rfl)).trans (val 4 L7)
    refine Inv.wp_value (v := .pointer (some ⟨bV, oV + 1, none⟩)) ?_ (hK.out _ _ (Wr1.refl x) rfl)
    clear hK K dep up val ev out
    generalize a.eval = ρ at *
    (simp [execOp, go_sem, *]; done)
  · refine Inv.duty_plain rfl rfl (fun L vs a x hG dep up val ev out K hK => ?_)
    obtain ⟨hW, cs, hcl, hB⟩ := hG
    have L8 := dep 5 (by kernel_rfl)
    have e8 : a.eval (.tmp 8) = .pointer (some ⟨bV, oV + 1, none⟩) := (ev 5 8 L8 (by kernel_rfl)).trans (val 5 L8)
    have hcell : x.cell? ⟨bV, oV + 1, none⟩ = some (.slice V1 m1 c1) := (hW.cell HBV.out).trans HQ1.out
    refine Inv.wp_value (v := .slice V1 m1 c1) ?_ (hK.out _ _ (Wr1.refl x) rfl)
    clear hK K dep up val ev out
    generalize a.eval = ρ at *
    (simp [execOp, go_sem, *]; done)
  · refine Inv.duty_plain rfl rfl (fun L vs a x hG dep up val ev out K hK => ?_)
    obtain ⟨hW, cs, hcl, hB⟩ := hG
    have L9 := dep 6 (by kernel_rfl)
    have e9 : a.eval (.tmp 9) = .slice V1 m1 c1 := (ev 6 9 L9 (by kernel_rfl)).trans (val 6 L9)
    have s1 := run_strB byteT Tryz.underlying9 (HR1.out.below hW)
    rw [HM1.out] at s1
    exact wp_convV (.tmp 9) rfl e9 s1 (hK.out _ _ (Wr1.refl x) rfl)
  · refine Inv.duty_plain rfl rfl (fun L vs a x hG dep up val ev out K hK => ?_)
    obtain ⟨hW, cs, hcl, hB⟩ := hG
    have e0 : a.eval (.tmp 0) = .slice (some ⟨bV, oV, none⟩) 6 cV := (out 0 (by kernel_rfl)).trans rfl
    refine Inv.wp_value (v := .slice (some ⟨bV, oV, none⟩) 6 cV) ?_ (hK.out _ _ (Wr1.refl x) rfl)
    clear hK K dep up val ev out
    generalize a.eval = ρ at *
    (simp [execOp, go_sem, *]; done)
  · refine Inv.duty_plain rfl rfl (fun L vs a x hG dep up val ev out K hK => ?_)
    obtain ⟨hW, cs, hcl, hB⟩ := hG
    have ek : ∀ u, a.eval (.const u) = u := fun _ => rfl
    have L11 := dep 8 (by kernel_rfl)
    have e11 : a.eval (.tmp 11) = .slice (some ⟨bV, oV, none⟩) 6 cV := (ev 8 11 L11 (by kernel_rfl)).trans (val 8 L11)
    refine Inv.wp_value (v := .pointer (some ⟨bV, oV + 2, none⟩)) ?_ (hK.out _ _ (Wr1.refl x) rfl)
    clear hK K dep up val ev out
    generalize a.eval = ρ at *
    (simp [execOp, go_sem, *]; done)
  · refine Inv.duty_plain rfl rfl (fun L vs a x hG dep up val ev out K hK => ?_)
    obtain ⟨hW, cs, hcl, hB⟩ := hG
    have L12 := dep 9 (by kernel_rfl)
    have e12 : a.eval (.tmp 12) = .pointer (some ⟨bV, oV + 2, none⟩) := (ev 9 12 L12 (by kernel_rfl)).trans (val 9 L12)
    have hcell : x.cell? ⟨bV, oV + 2, none⟩ = some (.slice V2 m2 c2) := (hW.cell HBV.out).trans HQ2.out
    refine Inv.wp_value (v := .slice V2 m2 c2) ?_ (hK.out _ _ (Wr1.refl x) rfl)
    clear hK K dep up val ev out
    generalize a.eval = ρ at *
    (simp [execOp, go_sem, *]; done)
  · refine Inv.duty_plain rfl rfl (fun L vs a x hG dep up val ev out K hK => ?_)
    obtain ⟨hW, cs, hcl, hB⟩ := hG
    have ef : ∀ f, a.eval (.func f) = .func (.func f) #[] #[] := fun _ => rfl
    have L13 := dep 10 (by kernel_rfl)
    have e13 : a.eval (.tmp 13) = .slice V2 m2 c2 := (ev 10 13 L13 (by kernel_rfl)).trans (val 10 L13)
    refine Inv.wp_call (by clear hK K dep up val ev out; generalize a.eval = ρ at *; (simp [execOp, go_sem, *]; done)) ((keyOf_any m2 c2 V2 v2 x HM2.out ((HR2.out.below hW).more hW.size)).mono ?_)
    rintro e w' ⟨rfl, g⟩
    exact ⟨_, rfl, hK.out _ _ (.inl g) rfl⟩
  · refine Inv.duty_plain rfl rfl (fun L vs a x hG dep up val ev out K hK => ?_)
    obtain ⟨hW, cs, hcl, hB⟩ := hG
    have e0 : a.eval (.tmp 0) = .slice (some ⟨bV, oV, none⟩) 6 cV := (out 0 (by kernel_rfl)).trans rfl
    refine Inv.wp_value (v := .slice (some ⟨bV, oV, none⟩) 6 cV) ?_ (hK.out _ _ (Wr1.refl x) rfl)
    clear hK K dep up val ev out
    generalize a.eval = ρ at *
    (simp [execOp, go_sem, *]; done)
  · refine Inv.duty_plain rfl rfl (fun L vs a x hG dep up val ev out K hK => ?_)
    obtain ⟨hW, cs, hcl, hB⟩ := hG
    have ek : ∀ u, a.eval (.const u) = u := fun _ => rfl
    have L15 := dep 12 (by kernel_rfl)
    have e15 : a.eval (.tmp 15) = .slice (some ⟨bV, oV, none⟩) 6 cV := (ev 12 15 L15 (by kernel_rfl)).trans (val 12 L15)
    refine Inv.wp_value (v := .pointer (some ⟨bV, oV + 3, none⟩)) ?_ (hK.out _ _ (Wr1.refl x) rfl)
    clear hK K dep up val ev out
    generalize a.eval = ρ at *
    (simp [execOp, go_sem, *]; done)
  · refine Inv.duty_plain rfl rfl (fun L vs a x hG dep up val ev out K hK => ?_)
    obtain ⟨hW, cs, hcl, hB⟩ := hG
    have L16 := dep 13 (by kernel_rfl)
    have e16 : a.eval (.tmp 16) = .pointer (some ⟨bV, oV + 3, none⟩) := (ev 13 16 L16 (by kernel_rfl)).trans (val 13 L16)
    have hcell : x.cell? ⟨bV, oV + 3, none⟩ = some (.slice V3 m3 c3) := (hW.cell HBV.out).trans HQ3.out
    refine Inv.wp_value (v := .slice V3 m3 c3) ?_ (hK.out _ _ (Wr1.refl x) rfl)
    clear hK K dep up val ev out
    generalize a.eval = ρ at *
    (simp [execOp, go_sem, *]; done)
  · refine Inv.duty_plain rfl rfl (fun L vs a x hG dep up val ev out K hK => ?_)
    obtain ⟨hW, cs, hcl, hB⟩ := hG
    have ef : ∀ f, a.eval (.func f) = .func (.func f) #[] #[] := fun _ => rfl
    have L17 := dep 14 (by kernel_rfl)
    have e17 : a.eval (.tmp 17) = .slice V3 m3 c3 := (ev 14 17 L17 (by kernel_rfl)).trans (val 14 L17)
    refine Inv.wp_call (by clear hK K dep up val ev out; generalize a.eval = ρ at *; (simp [execOp, go_sem, *]; done)) ((number_any V3 v3 m3 c3 w.heap.size x HM3.out (HR3.out.below hW)).mono ?_)
    rintro e w' ⟨rfl, rfl⟩
    rw [HN3.out]
    exact ⟨_, rfl, hK.out _ _ (Wr1.refl _) rfl⟩
  · refine Inv.duty_plain rfl rfl (fun L vs a x hG dep up val ev out K hK => ?_)
    obtain ⟨hW, cs, hcl, hB⟩ := hG
    have L18 := dep 15 (by kernel_rfl)
    have e18 : a.eval (.tmp 18) = .int .u64 (n3 : Int) := (ev 15 18 L18 (by kernel_rfl)).trans (val 15 L18)
    refine Inv.wp_value (v := .int .i64 (IntKind.i64.wrap (n3 : Int))) ?_ (hK.out _ _ (Wr1.refl x) rfl)
    clear hK K dep up val ev out
    generalize a.eval = ρ at *
    (simp [execOp, go_sem, *]; done)
  · refine Inv.duty_plain rfl rfl (fun L vs a x hG dep up val ev out K hK => ?_)
    obtain ⟨hW, cs, hcl, hB⟩ := hG
    have e0 : a.eval (.tmp 0) = .slice (some ⟨bV, oV, none⟩) 6 cV := (out 0 (by kernel_rfl)).trans rfl
    refine Inv.wp_value (v := .slice (some ⟨bV, oV, none⟩) 6 cV) ?_ (hK.out _ _ (Wr1.refl x) rfl)
    clear hK K dep up val ev out
    generalize a.eval = ρ at *
    (simp [execOp, go_sem, *]; done)
  · refine Inv.duty_plain rfl rfl (fun L vs a x hG dep up val ev out K hK => ?_)
    obtain ⟨hW, cs, hcl, hB⟩ := hG
    have ek : ∀ u, a.eval (.const u) = u := fun _ => rfl
    have L20 := dep 17 (by kernel_rfl)
    have e20 : a.eval (.tmp 20) = .slice (some ⟨bV, oV, none⟩) 6 cV := (ev 17 20 L20 (by kernel_rfl)).trans (val 17 L20)
    refine Inv.wp_value (v := .pointer (some ⟨bV, oV + 4, none⟩)) ?_ (hK.out _ _ (Wr1.refl x) rfl)
    clear hK K dep up val ev out
    generalize a.eval = ρ at *
    (simp [execOp, go_sem, *]; done)
  · refine Inv.duty_plain rfl rfl (fun L vs a x hG dep up val ev out K hK => ?_)
    obtain ⟨hW, cs, hcl, hB⟩ := hG
    have L21 := dep 18 (by kernel_rfl)
    have e21 : a.eval (.tmp 21) = .pointer (some ⟨bV, oV + 4, none⟩) := (ev 18 21 L21 (by kernel_rfl)).trans (val 18 L21)
    have hcell : x.cell? ⟨bV, oV + 4, none⟩ = some (.slice V4 m4 c4) := (hW.cell HBV.out).trans HQ4.out
    refine Inv.wp_value (v := .slice V4 m4 c4) ?_ (hK.out _ _ (Wr1.refl x) rfl)
    clear hK K dep up val ev out
    generalize a.eval = ρ at *
    (simp [execOp, go_sem, *]; done)
  · refine Inv.duty_plain rfl rfl (fun L vs a x hG dep up val ev out K hK => ?_)
    obtain ⟨hW, cs, hcl, hB⟩ := hG
    have ef : ∀ f, a.eval (.func f) = .func (.func f) #[] #[] := fun _ => rfl
    have L22 := dep 19 (by kernel_rfl)
    have e22 : a.eval (.tmp 22) = .slice V4 m4 c4 := (ev 19 22 L22 (by kernel_rfl)).trans (val 19 L22)
    refine Inv.wp_call (by clear hK K dep up val ev out; generalize a.eval = ρ at *; (simp [execOp, go_sem, *]; done)) ((number_any V4 v4 m4 c4 w.heap.size x HM4.out (HR4.out.below hW)).mono ?_)
    rintro e w' ⟨rfl, rfl⟩
    rw [HN4.out]
    exact ⟨_, rfl, hK.out _ _ (Wr1.refl _) rfl⟩
  · refine Inv.duty_plain rfl rfl (fun L vs a x hG dep up val ev out K hK => ?_)
    obtain ⟨hW, cs, hcl, hB⟩ := hG
    have L23 := dep 20 (by kernel_rfl)
    have e23 : a.eval (.tmp 23) = .int .u64 (n4 : Int) := (ev 20 23 L23 (by kernel_rfl)).trans (val 20 L23)
    refine Inv.wp_value (v := .int .i64 (IntKind.i64.wrap (n4 : Int))) ?_ (hK.out _ _ (Wr1.refl x) rfl)
    clear hK K dep up val ev out
    generalize a.eval = ρ at *
    (simp [execOp, go_sem, *]; done)
  · refine Inv.duty_plain rfl rfl (fun L vs a x hG dep up val ev out K hK => ?_)
    obtain ⟨hW, cs, hcl, hB⟩ := hG
    have e0 : a.eval (.tmp 0) = .slice (some ⟨bV, oV, none⟩) 6 cV := (out 0 (by kernel_rfl)).trans rfl
    refine Inv.wp_value (v := .slice (some ⟨bV, oV, none⟩) 6 cV) ?_ (hK.out _ _ (Wr1.refl x) rfl)
    clear hK K dep up val ev out
    generalize a.eval = ρ at *
    (simp [execOp, go_sem, *]; done)
  · refine Inv.duty_plain rfl rfl (fun L vs a x hG dep up val ev out K hK => ?_)
    obtain ⟨hW, cs, hcl, hB⟩ := hG
    have ek : ∀ u, a.eval (.const u) = u := fun _ => rfl
    have L25 := dep 22 (by kernel_rfl)
    have e25 : a.eval (.tmp 25) = .slice (some ⟨bV, oV, none⟩) 6 cV := (ev 22 25 L25 (by kernel_rfl)).trans (val 22 L25)
    refine Inv.wp_value (v := .pointer (some ⟨bV, oV + 5, none⟩)) ?_ (hK.out _ _ (Wr1.refl x) rfl)
    clear hK K dep up val ev out
    generalize a.eval = ρ at *
    (simp [execOp, go_sem, *]; done)
  · refine Inv.duty_plain rfl rfl (fun L vs a x hG dep up val ev out K hK => ?_)
    obtain ⟨hW, cs, hcl, hB⟩ := hG
    have L26 := dep 23 (by kernel_rfl)
    have e26 : a.eval (.tmp 26) = .pointer (some ⟨bV, oV + 5, none⟩) := (ev 23 26 L26 (by kernel_rfl)).trans (val 23 L26)
    have hcell : x.cell? ⟨bV, oV + 5, none⟩ = some (.slice V5 m5 c5) := (hW.cell HBV.out).trans HQ5.out
    refine Inv.wp_value (v := .slice V5 m5 c5) ?_ (hK.out _ _ (Wr1.refl x) rfl)
    clear hK K dep up val ev out
    generalize a.eval = ρ at *
    (simp [execOp, go_sem, *]; done)
  · refine Inv.duty_plain rfl rfl (fun L vs a x hG dep up val ev out K hK => ?_)
    obtain ⟨hW, cs, hcl, hB⟩ := hG
    have ef : ∀ f, a.eval (.func f) = .func (.func f) #[] #[] := fun _ => rfl
    have L27 := dep 24 (by kernel_rfl)
    have e27 : a.eval (.tmp 27) = .slice V5 m5 c5 := (ev 24 27 L27 (by kernel_rfl)).trans (val 24 L27)
    refine Inv.wp_call (by clear hK K dep up val ev out; generalize a.eval = ρ at *; (simp [execOp, go_sem, *]; done)) ((number_any V5 v5 m5 c5 w.heap.size x HM5.out (HR5.out.below hW)).mono ?_)
    rintro e w' ⟨rfl, rfl⟩
    rw [HN5.out]
    exact ⟨_, rfl, hK.out _ _ (Wr1.refl _) rfl⟩
  · refine Inv.duty_plain rfl rfl (fun L vs a x hG dep up val ev out K hK => ?_)
    obtain ⟨hW, cs, hcl, hB⟩ := hG
    have L28 := dep 25 (by kernel_rfl)
    have e28 : a.eval (.tmp 28) = .int .u64 (n5 : Int) := (ev 25 28 L28 (by kernel_rfl)).trans (val 25 L28)
    refine Inv.wp_value (v := .int .i64 (IntKind.i64.wrap (n5 : Int))) ?_ (hK.out _ _ (Wr1.refl x) rfl)
    clear hK K dep up val ev out
    generalize a.eval = ρ at *
    (simp [execOp, go_sem, *]; done)
  · refine Inv.duty_plain rfl rfl (fun L vs a x hG dep up val ev out K hK => ?_)
    obtain ⟨hW, cs, hcl, hB⟩ := hG
    have L6 := dep 3 (by kernel_rfl)
    have e6 : a.eval (.tmp 6) = .string (ba v0) := (ev 3 6 L6 (by kernel_rfl)).trans (val 3 L6)
    have L10 := dep 7 (by kernel_rfl)
    have e10 : a.eval (.tmp 10) = .string (ba v1) := (ev 7 10 L10 (by kernel_rfl)).trans (val 7 L10)
    have L14 := dep 11 (by kernel_rfl)
    have e14 : a.eval (.tmp 14) = .agg (bcells (keyB v2)).toArray := (ev 11 14 L14 (by kernel_rfl)).trans (val 11 L14)
    have L19 := dep 16 (by kernel_rfl)
    have e19 : a.eval (.tmp 19) = .int .i64 (IntKind.i64.wrap (n3 : Int)) := (ev 16 19 L19 (by kernel_rfl)).trans (val 16 L19)
    have L24 := dep 21 (by kernel_rfl)
    have e24 : a.eval (.tmp 24) = .int .i64 (IntKind.i64.wrap (n4 : Int)) := (ev 21 24 L24 (by kernel_rfl)).trans (val 21 L24)
    have L29 := dep 26 (by kernel_rfl)
    have e29 : a.eval (.tmp 29) = .int .i64 (IntKind.i64.wrap (n5 : Int)) := (ev 26 29 L29 (by kernel_rfl)).trans (val 26 L29)
    exact wp_buildV rfl (by simp [e6, e10, e14, e19, e24, e29]) (HBD.out x) (hK.out _ _ (Wr1.refl x) rfl)
  · refine Inv.duty_plain rfl rfl (fun L vs a x hG dep up val ev out K hK => ?_)
    obtain ⟨hW, cs, hcl, hB⟩ := hG
    have e2 : a.eval (.tmp 2) = .pointer (some ⟨w.heap.size, 0, none⟩) := (out 2 (by kernel_rfl)).trans rfl
    have L30 := dep 27 (by kernel_rfl)
    have e30 : a.eval (.tmp 30) = .agg RES.toArray := (ev 27 30 L30 (by kernel_rfl)).trans (val 27 L30)
    refine wp_storeC (d := none) (off := 0) (p := RES) aggTr.hi rfl (.tmp 2) (.tmp 30) rfl (.agg RES.toArray) rfl HRO.out hB HRL.out (by have := HRL.out; omega) e2 e30 ?_
    intro w' h g
    rw [over_all _ _ (by have := HRL.out; omega)] at h
    exact hK.out _ _ (.inr ⟨g, h⟩) h
  intro us w' hG hv
  have hC : CB w' w.heap.size 25 RES := hv 28 (by omega)
  simp only [Inv.putAll, Act.put, List.setIfInBounds_toArray, List.set_cons_zero, List.set_cons_succ, Nat.zero_add, Nat.reduceAdd]
  clear hv
  have HG := Lib.hid (none_of_below hG.1 (Nat.le_refl _))
  have HC := Lib.hid hC
  clear hC hG
  go_wp2
  exact bodyPost_ret (results_C1 rfl _ aggTr HC.out HRL.out rfl) rfl ⟨rfl, HG.out⟩

/-! Auth. -/
def aMade (vs : List (List UInt8)) : List Value := acells (ba (vs.getD 0 [])) (keyB (vs.getD 3 [])) (i64w (readOf (vs.getD 1 [])).1) (((readOf (vs.getD 2 [])).1 : Int))
theorem aMade_length (vs : List (List UInt8)) : (aMade vs).length = 19 := acells_length _ _ _ _ (keyB_length _)
def aZero : List Value := acells ⟨#[]⟩ (zeros 16) 0 0
theorem aZero_length : aZero.length = 19 := rfl
theorem acellsr_one (c : ByteArray) (k : List UInt8) (ti no : Int) : ∀ u ∈ acells c k ti no, u.oneCell' = true := by
  intro u hu
  simp only [acells, List.mem_append, List.mem_cons, List.not_mem_nil, or_false] at hu
  rcases hu with (rfl | rfl | rfl) | h
  · rfl
  · rfl
  · rfl
  · exact bcells_one _ u h
/-! Grant. -/
def gMade (vs : List (List UInt8)) : List Value := gcells (ba (vs.getD 0 [])) (keyB (vs.getD 1 [])) (((readOf (vs.getD 2 [])).1 : Int)) (i64w (readOf (vs.getD 3 [])).1) (i64w (readOf (vs.getD 4 [])).1) (i64w (readOf (vs.getD 5 [])).1)
theorem gMade_length (vs : List (List UInt8)) : (gMade vs).length = 21 := gcells_length _ _ _ _ _ _ (keyB_length _)
def gZero : List Value := gcells ⟨#[]⟩ (zeros 16) 0 0 0 0
theorem gZero_length : gZero.length = 21 := rfl
theorem gcellsr_one (s : ByteArray) (k : List UInt8) (no st en fl : Int) : ∀ u ∈ gcells s k no st en fl, u.oneCell' = true := by
  intro u hu
  simp only [gcells, List.mem_append, List.mem_cons, List.not_mem_nil, or_false] at hu
  rcases hu with ((rfl) | h) | rfl | rfl | rfl | rfl
  · rfl
  · exact bcells_one _ u h
  · rfl
  · rfl
  · rfl
  · rfl
end Go.Proofs.YthgejidimnbplaaGreatDoor
