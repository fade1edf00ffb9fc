/- The walks of ticket's Read, ReadAuth and ReadGrant. -/
import Derived.Test.YtnfmbgmncdodkaaDoorTkw
import Derived.Test.YtnfmbgmncdodkaaDoorTks
import Derived.Test.YtnfmbgmncdodkaaDoorBrN
namespace Go.Proofs.YtnfmbgmncdodkaaDoor
open Go.RowKit

theorem RS.over {w w' : World} {A : Option Addr} {ls : List (List UInt8)} {c : Nat} (h : RS w w.heap.size A ls c) (hb : Below w.heap.size w w') : RS w' w'.heap.size A ls c := (h.below hb).more hb.size
theorem valuesOf_le {l : List UInt8} {ts : List Int} {v : List UInt8} (hv : v ∈ (valuesOf l ts).1) : v.length ≤ l.length := by
  unfold valuesOf at hv
  split at hv
  · simp at hv
  · split at hv
    · obtain ⟨f, hf, rfl⟩ := List.mem_map.1 hv
      exact Nat.le_trans (len_of_tot _ f hf) (tot_splitOf l)
    · simp at hv
theorem valuesOf_length {l : List UInt8} {ts : List Int} (h : (valuesOf l ts).2 = 0) : (valuesOf l ts).1.length = ts.length := by
  unfold valuesOf at h ⊢
  split
  · rename_i h1; rw [if_pos h1] at h; exact absurd h h1
  · rename_i h1
    rw [if_neg h1] at h
    split
    · rename_i h2; rw [← h2]; simp
    · rename_i h2; rw [if_neg h2] at h; simp at h
/-- A region in which one block is written, and else only new memory is made. -/
def Wr1 (g : Nat) (t : TypeId) (R : List Value) (x y : World) : Prop := x.grownBy y none ∨ (x.grownBy y (some g) ∧ CB y g t R)
def Ws1 (w : World) (g : Nat) (t : TypeId) (n : Nat) (x : World) : Prop := Below w.heap.size w x ∧ ∃ cs, cs.length = n ∧ CB x g t cs
theorem Ws1.next {w : World} {g : Nat} {t : TypeId} {n : Nat} {R : List Value} (hg : w.heap.size ≤ g) (hR : R.length = n) : ∀ x y, Wr1 g t R x y → Ws1 w g t n x → Ws1 w g t n y := by
  rintro x y (h | ⟨h, hc⟩) ⟨hb, cs, hl, hcs⟩
  · exact ⟨hb.trans (below_row h hb.size (fun _ e => by cases e)), cs, hl, hcs.kept h⟩
  · exact ⟨hb.trans (below_row h hb.size (fun g' e => by injection e with e; omega)), R, hR, hc⟩
theorem CB.wr1 {g : Nat} {t : TypeId} {R : List Value} {x y : World} (h : Wr1 g t R x y) (hc : CB x g t R) : CB y g t R := by
  rcases h with h | ⟨_, h⟩
  · exact hc.kept h
  · exact h
theorem Wr1.refl {g : Nat} {t : TypeId} {R : List Value} (x : World) : Wr1 g t R x x := .inl (World.grownBy.refl x _)
/-- A region by its operations' duties, whatever may become of the world in them. -/
theorem region_by {P : Program} {ops : Array Oper} {Q : Exit → Act → World → Prop} {a0 : Act} {id : Nat} {w : World} (n : Nat) (ds : List (Option Tmp)) (T : World → World → Prop) (G : World → Prop) (F : Nat → Value → World → Prop) (hm : P.follows .mixedOrders = true) (hok : Inv.okB ops a0.tmps.size = true) (hn : ops.size = n) (hds : (List.range n).map (Inv.dstOf ops) = ds)
    (hG : ∀ x y, T x y → G x → G y) (hF : ∀ j v x y, T x y → G x → F j v x → F j v y) (h0 : G w.drew)
    (step : Inv.Duties P ops Q a0 T G F n)
    (fin : ∀ vs w', G w' → (∀ i, i < n → F i (vs i) w') → Q .normal (Inv.putAll vs ds 0 a0) w') : (Code.region id ops true).wp P Q a0 w := by
  subst hn
  refine Inv.region_inv T G F hm hok hG hF h0 (Inv.duties_all step) (fun vs w' hg hf => ?_)
  rw [Inv.canon_putAll, hds]
  exact fin vs w' hg hf
theorem wp_convV {P : Program} {o : Oper} {a : Act} {w : World} {K : Act → World → Prop} {Q : Exit → Act → World → Prop} {src dst : TypeId} {u v : Value} (x : Operand) (ho : o.op = .convert src dst x) (hx : a.eval x = u) (hr : (convert src dst u).run P w = .ok v w) (hk : K (a.put o.dst v) w) : o.wp P a w K Q := by
  unfold Oper.wp execOp
  simp only [ho, hx, Sem.run_bind, Sem.run_pure, Result.andThen_ok, hr]
  exact hk
theorem wp_buildV {P : Program} {o : Oper} {a : Act} {w : World} {K : Act → World → Prop} {Q : Exit → Act → World → Prop} {t : TypeId} {parts : Array (Nat × Operand)} {ps : Array (Nat × Value)} {v : Value} (ho : o.op = .build t parts) (hp : parts.map (fun z => (z.1, a.eval z.2)) = ps) (hr : (Instr.build t ps).run P w = .ok v w) (hk : K (a.put o.dst v) w) : o.wp P a w K Q := by
  unfold Oper.wp execOp
  have hp' : parts.map (fun (i, x) => (i, a.eval x)) = ps := hp
  simp only [ho, hp', Sem.run_bind, Sem.run_pure, Result.andThen_ok, hr]
  exact hk
theorem six {α : Type} {l : List α} (h : l.length = 6) : ∃ a b c d e f, l = [a, b, c, d, e, f] :=
  match l, h with
  | [a, b, c, d, e, f], _ => ⟨a, b, c, d, e, f, rfl⟩
theorem four {α : Type} {l : List α} (h : l.length = 4) : ∃ a b c d, l = [a, b, c, d] :=
  match l, h with
  | [a, b, c, d], _ => ⟨a, b, c, d, rfl⟩
theorem sixteen {α : Type} {l : List α} (h : l.length = 16) : ∃ a b c d e f g i j k m n o p q r, l = [a, b, c, d, e, f, g, i, j, k, m, n, o, p, q, r] :=
  match l, h with
  | [a, b, c, d, e, f, g, i, j, k, m, n, o, p, q, r], _ => ⟨a, b, c, d, e, f, g, i, j, k, m, n, o, p, q, r, rfl⟩
def ba (l : List UInt8) : ByteArray := ⟨l.toArray⟩
theorem ba_data (l : List UInt8) : (ba l).data.toList = l := rfl
def i64w (n : Nat) : Int := IntKind.i64.wrap (n : Int)

/-! Ticket. -/
def tMade (vs : List (List UInt8)) : List Value := tcells (ba (vs.getD 0 [])) (ba (vs.getD 1 [])) (keyB (vs.getD 2 [])) (i64w (readOf (vs.getD 3 [])).1) (i64w (readOf (vs.getD 4 [])).1) (i64w (readOf (vs.getD 5 [])).1)
theorem tMade_length (vs : List (List UInt8)) : (tMade vs).length = 21 := tcells_length _ _ _ _ _ _ (keyB_length _)
def tZero : List Value := tcells ⟨#[]⟩ ⟨#[]⟩ (zeros 16) 0 0 0
theorem tZero_length : tZero.length = 21 := rfl
theorem tcellsr_one (c s : ByteArray) (k : List UInt8) (st en fl : Int) : ∀ u ∈ tcells c s k st en fl, u.oneCell' = true := by
  intro u hu
  simp only [tcells, List.mem_append, List.mem_cons, List.not_mem_nil, or_false] at hu
  rcases hu with ((rfl | rfl) | h) | rfl | rfl | rfl
  · rfl
  · rfl
  · exact bcells_one _ u h
  · rfl
  · rfl
  · rfl
/-! Auth. -/
def aMade (vs : List (List UInt8)) : List Value := acells (ba (vs.getD 0 [])) (keyB (vs.getD 3 [])) (i64w (readOf (vs.getD 1 [])).1) (((readOf (vs.getD 2 [])).1 : Int))
theorem aMade_length (vs : List (List UInt8)) : (aMade vs).length = 19 := acells_length _ _ _ _ (keyB_length _)
def aZero : List Value := acells ⟨#[]⟩ (zeros 16) 0 0
theorem aZero_length : aZero.length = 19 := rfl
theorem acellsr_one (c : ByteArray) (k : List UInt8) (ti no : Int) : ∀ u ∈ acells c k ti no, u.oneCell' = true := by
  intro u hu
  simp only [acells, List.mem_append, List.mem_cons, List.not_mem_nil, or_false] at hu
  rcases hu with (rfl | rfl | rfl) | h
  · rfl
  · rfl
  · rfl
  · exact bcells_one _ u h
/-! Grant. -/
def gMade (vs : List (List UInt8)) : List Value := gcells (ba (vs.getD 0 [])) (keyB (vs.getD 1 [])) (((readOf (vs.getD 2 [])).1 : Int)) (i64w (readOf (vs.getD 3 [])).1) (i64w (readOf (vs.getD 4 [])).1) (i64w (readOf (vs.getD 5 [])).1)
theorem gMade_length (vs : List (List UInt8)) : (gMade vs).length = 21 := gcells_length _ _ _ _ _ _ (keyB_length _)
def gZero : List Value := gcells ⟨#[]⟩ (zeros 16) 0 0 0 0
theorem aggGr : AggT Tryd.prog 47 21 := ⟨fun w => by kernel_rfl, by kernel_rfl⟩
theorem zeroGr (w : World) : (zeroValue 47).run Tryd.prog w = .ok (.agg gZero.toArray) w := by kernel_rfl
theorem gZero_length : gZero.length = 21 := rfl
theorem run_buildG (s : ByteArray) (k : List UInt8) (no st en fl : Int) (hk : k.length = 16) (w : World) : (Instr.build 47 #[(0, .string s), (1, .agg (bcells k).toArray), (2, .int .u64 no), (3, .int .i64 st), (4, .int .i64 en), (5, .int .i64 fl)]).run Tryd.prog w = .ok (.agg (gcells s k no st en fl).toArray) w := by
  obtain ⟨a0, a1, a2, a3, a4, a5, a6, a7, a8, a9, a10, a11, a12, a13, a14, a15, rfl⟩ := sixteen hk
  kernel_rfl
theorem gcellsr_one (s : ByteArray) (k : List UInt8) (no st en fl : Int) : ∀ u ∈ gcells s k no st en fl, u.oneCell' = true := by
  intro u hu
  simp only [gcells, List.mem_append, List.mem_cons, List.not_mem_nil, or_false] at hu
  rcases hu with ((rfl) | h) | rfl | rfl | rfl | rfl
  · rfl
  · exact bcells_one _ u h
  · rfl
  · rfl
  · rfl
  · rfl
/-- What the closure's operations yield. -/
def TkgR (bV oV cV : Nat) (V0 : Option Addr) (m0 c0 : Nat) (v0 : List UInt8) (V1 : Option Addr) (m1 c1 : Nat) (v1 : List UInt8) (V2 : Option Addr) (m2 c2 : Nat) (V3 : Option Addr) (m3 c3 : Nat) (V4 : Option Addr) (m4 c4 : Nat) (V5 : Option Addr) (m5 c5 : Nat) (n2 : Nat) (n3 : Nat) (n4 : Nat) (n5 : Nat) (RES : List Value) (g : Nat) : Nat → Value → World → Prop
  | 0, v, _ => v = .slice (some ⟨bV, oV, none⟩) 6 cV
  | 1, v, _ => v = .pointer (some ⟨bV, oV, none⟩)
  | 2, v, _ => v = .slice V0 m0 c0
  | 3, v, _ => v = .string (ba v0)
  | 4, v, _ => v = .slice (some ⟨bV, oV, none⟩) 6 cV
  | 5, v, _ => v = .pointer (some ⟨bV, oV + 1, none⟩)
  | 6, v, _ => v = .slice V1 m1 c1
  | 7, v, _ => v = .agg (bcells (keyB v1)).toArray
  | 8, v, _ => v = .slice (some ⟨bV, oV, none⟩) 6 cV
  | 9, v, _ => v = .pointer (some ⟨bV, oV + 2, none⟩)
  | 10, v, _ => v = .slice V2 m2 c2
  | 11, v, _ => v = .int .u64 (n2 : Int)
  | 12, v, _ => v = .slice (some ⟨bV, oV, none⟩) 6 cV
  | 13, v, _ => v = .pointer (some ⟨bV, oV + 3, none⟩)
  | 14, v, _ => v = .slice V3 m3 c3
  | 15, v, _ => v = .int .u64 (n3 : Int)
  | 16, v, _ => v = .int .i64 (IntKind.i64.wrap (n3 : Int))
  | 17, v, _ => v = .slice (some ⟨bV, oV, none⟩) 6 cV
  | 18, v, _ => v = .pointer (some ⟨bV, oV + 4, none⟩)
  | 19, v, _ => v = .slice V4 m4 c4
  | 20, v, _ => v = .int .u64 (n4 : Int)
  | 21, v, _ => v = .int .i64 (IntKind.i64.wrap (n4 : Int))
  | 22, v, _ => v = .slice (some ⟨bV, oV, none⟩) 6 cV
  | 23, v, _ => v = .pointer (some ⟨bV, oV + 5, none⟩)
  | 24, v, _ => v = .slice V5 m5 c5
  | 25, v, _ => v = .int .u64 (n5 : Int)
  | 26, v, _ => v = .int .i64 (IntKind.i64.wrap (n5 : Int))
  | 27, v, _ => v = .agg RES.toArray
  | 28, _, x => CB x g 47 RES
  | _, _, _ => True
theorem TkgR.next {bV oV cV : Nat} {V0 : Option Addr} {m0 c0 : Nat} {v0 : List UInt8} {V1 : Option Addr} {m1 c1 : Nat} {v1 : List UInt8} {V2 : Option Addr} {m2 c2 : Nat} {V3 : Option Addr} {m3 c3 : Nat} {V4 : Option Addr} {m4 c4 : Nat} {V5 : Option Addr} {m5 c5 : Nat} {n2 : Nat} {n3 : Nat} {n4 : Nat} {n5 : Nat} {RES : List Value} {g : Nat} : ∀ (j : Nat) (v : Value) (x y : World), Wr1 g 47 RES x y → TkgR bV oV cV V0 m0 c0 v0 V1 m1 c1 v1 V2 m2 c2 V3 m3 c3 V4 m4 c4 V5 m5 c5 n2 n3 n4 n5 RES g j v x → TkgR bV oV cV V0 m0 c0 v0 V1 m1 c1 v1 V2 m2 c2 V3 m3 c3 V4 m4 c4 V5 m5 c5 n2 n3 n4 n5 RES g j v y
  | 0, _, _, _, _, h => h
  | 1, _, _, _, _, h => h
  | 2, _, _, _, _, h => h
  | 3, _, _, _, _, h => h
  | 4, _, _, _, _, h => h
  | 5, _, _, _, _, h => h
  | 6, _, _, _, _, h => h
  | 7, _, _, _, _, h => h
  | 8, _, _, _, _, h => h
  | 9, _, _, _, _, h => h
  | 10, _, _, _, _, h => h
  | 11, _, _, _, _, h => h
  | 12, _, _, _, _, h => h
  | 13, _, _, _, _, h => h
  | 14, _, _, _, _, h => h
  | 15, _, _, _, _, h => h
  | 16, _, _, _, _, h => h
  | 17, _, _, _, _, h => h
  | 18, _, _, _, _, h => h
  | 19, _, _, _, _, h => h
  | 20, _, _, _, _, h => h
  | 21, _, _, _, _, h => h
  | 22, _, _, _, _, h => h
  | 23, _, _, _, _, h => h
  | 24, _, _, _, _, h => h
  | 25, _, _, _, _, h => h
  | 26, _, _, _, _, h => h
  | 27, _, _, _, _, h => h
  | 28, _, _, _, hg, h => CB.wr1 hg h
  | _ + 29, _, _, _, _, _ => by simp [TkgR]

end Go.Proofs.YtnfmbgmncdodkaaDoor
