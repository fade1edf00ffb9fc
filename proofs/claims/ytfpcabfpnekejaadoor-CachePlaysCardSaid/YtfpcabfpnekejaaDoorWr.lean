/- Small lemmas on blocks, rows and results. Plain lemmas. -/
import Derived.Test.YtfpcabfpnekejaaDoorMkd
import Derived.Test.YtfpcabfpnekejaaDoorRows
import Derived.WalkKit
import Derived.ProofKit
import Derived.OpenShut
import Derived.ShutString
import Derived.ChangeOld
import Derived.Below
import Derived.HandedShaped
import Derived.LaidMore
import Derived.Lay
import Derived.Stop.Joined
import Derived.Test.YtfpcabfpnekejaaDoorTie
import Derived.Test.YtfpcabfpnekejaaDoorCards
import Derived.SevenTiedAt
namespace Go.Proofs.YtfpcabfpnekejaaDoor
open Go.RowKit

theorem bcells_take (l : List UInt8) (n : Nat) : bcells (l.take n) = (bcells l).take n := by simp [bcells, List.map_take]
theorem bcells_drop (l : List UInt8) (n : Nat) : bcells (l.drop n) = (bcells l).drop n := by simp [bcells, List.map_drop]
theorem bcells_some {l : List UInt8} {k : Nat} {u : UInt8} (h : l[k]? = some u) : (bcells l)[k]? = some (.int .u8 (u.toNat : Int)) := by rw [bcells_at, h]; rfl
def zeros (n : Nat) : List UInt8 := List.replicate n 0
theorem zeros_length (n : Nat) : (zeros n).length = n := by simp [zeros]
theorem over_all (cs p : List Value) (h : cs.length ≤ p.length) : over cs 0 p = p := by
  rw [over, List.take_zero, List.nil_append, List.drop_eq_nil_of_le (by omega), List.append_nil]
theorem CB.new1 (w : World) (o1 : Obj) (t : TypeId) (cs : List Value) : CB ((w.alloc o1).alloc (.cells cs.toArray t)) (w.heap.size + 1) t cs := by
  have := CB.new (w.alloc o1) t cs
  rw [World.size_alloc] at this
  exact this
theorem RB.of_CB {w : World} {g : Nat} {t : TypeId} {l : List UInt8} (h : CB w g t (bcells l)) (hm : l.length ≤ maxLen) {n : Nat} (hn : l.length = n) : RB w w.heap.size (some ⟨g, 0, none⟩) l n := by
  subst hn
  refine ⟨Nat.le_refl _, hm, .inr ⟨_, rfl, fun k u hu => ⟨h.lt, ?_⟩⟩⟩
  rw [Addr.add_lit, Nat.zero_add]
  exact h.at_ (bcells_some hu)
theorem RB.kept {w w' : World} {B : Nat} {A : Option Addr} {l : List UInt8} {cap : Nat} (h : RB w B A l cap) (hg : w.grownBy w' none) (hB : B ≤ w.heap.size) : RB w' B A l cap := h.grown hg hB (fun _ e => by cases e)
section
variable {P : Program} {w : World} {ops : Array Oper} {rest : List Oper} {o : Oper} {a : Act} {Q : Exit → Act → World → Prop} {ty : TypeId} {cs : List Value}
/-- The result that lies in a block. -/
theorem results_C {fn : Func} {p : Tmp} {e : TypeId} {n g : Nat} {t : TypeId} (ht : P.underlying ty = some (.array n e)) (hi : (P.info? ty).map (·.size) = some n) (hr : fn.results = #[.cell p ty]) (tmps : Array Value) (h : CB w g t cs) (hl : cs.length = n) (hp : tmps.getD p undef = .pointer (some ⟨g, 0, none⟩)) :
    (results fn tmps).run P w = .ok (.agg cs.toArray) w :=
  results_cell_row hr tmps w g t _ (0, 0) _ hp h ht rfl (by rw [hi, List.size_toArray, hl])
/-- The same of a type of n cells, whatever it is. -/
theorem results_C1 {fn : Func} {p : Tmp} {n g : Nat} {t : TypeId} (hr : fn.results = #[.cell p ty]) (tmps : Array Value) (hT : AggT P ty n) (h : CB w g t cs) (hl : cs.length = n) (hp : tmps.getD p undef = .pointer (some ⟨g, 0, none⟩)) :
    (results fn tmps).run P w = .ok (.agg cs.toArray) w := by
  have hp' : tmps[p]?.getD undef = .pointer (some ⟨g, 0, none⟩) := by simpa using hp
  have hld := run_loadC (P := P) (p := cs) (off := 0) hT h (by rw [List.drop_zero]; exact List.take_of_length_le (by omega)) (by omega)
  simp [results, hr, hp', asAddr, hld]
end
theorem sz8 : (Tryd.prog.info? 5).map (·.size) = some 1 := by kernel_rfl
theorem OwnG.lt_ {w : World} {base : Nat} {e : TypeId} {v : Value} {l : List UInt8} (h : OwnG w base e v l) : ∀ g, v.ownBlock = some g → base ≤ g ∧ g < w.heap.size := by
  obtain ⟨A, cap, _, _, h⟩ := h.shape
  exact h
theorem OwnG.base_ {w : World} {base base' : Nat} {e : TypeId} {v : Value} {l : List UInt8} (h : OwnG w base e v l) (hb : base' ≤ base) : OwnG w base' e v l :=
  h.imp id fun ⟨g, cap, cur, fz, hv, hg, r⟩ => ⟨g, cap, cur, fz, hv, Nat.le_trans hb hg, r⟩
theorem OwnG.row {w w' : World} {base : Nat} {e : TypeId} {v : Value} {l : List UInt8} {r : Option Nat} (h : OwnG w base e v l) (hg : w.grownBy w' r) (hr : ∀ g, v.ownBlock = some g → r ≠ some g) : OwnG w' base e v l := by
  rcases h with h | ⟨g, cap, cur, fz, hv, hb, h1, r⟩
  · exact .inl h
  · exact .inr ⟨g, cap, cur, fz, hv, hb, (hg.block g (Array.getElem?_eq_some_iff.1 h1).1 (fun e => hr g (by rw [hv]; rfl) e.symm)).trans h1, r⟩
theorem CB.row {w w' : World} {g : Nat} {t : TypeId} {cs : List Value} {r : Option Nat} (h : CB w g t cs) (hg : w.grownBy w' r) (hr : ∀ g', r = some g' → g' ≠ g) : CB w' g t cs := (hg.block g h.lt (fun e => hr g e.symm rfl)).trans h
theorem RB.row_ {w w' : World} {A : Option Addr} {l : List UInt8} {cap : Nat} (h : RB w w.heap.size A l cap) (hg : w.grownBy w' none) : RB w' w'.heap.size A l cap := (h.kept hg (Nat.le_refl _)).more hg.size
theorem grownR {a b c : World} {r : Option Nat} (h : a.grownBy b none) (k : b.grownBy c r) (hr : ∀ g, r = some g → a.heap.size ≤ g) : a.grownBy c none := by
  rcases r with _ | g
  · exact grown_trans' h k
  · exact none_new h k (hr g rfl)

/-- A guarded load whose guard has been met. -/
theorem wpList_loadCg {P : Program} {w : World} {ops : Array Oper} {rest : List Oper} {o : Oper} {a : Act} {Q : Exit → Act → World → Prop} {ty t : TypeId} {n g off : Nat} {cs p : List Value} (hT : AggT P ty n) (hw : Region.wanted o (yielded ops a.tmps) = true) (x : Operand) (ho : o.op = .load ty x) (h : CB w g t cs) (hp : (cs.drop off).take n = p) (hl : off + n ≤ cs.length) (hx : a.eval x = .pointer (some ⟨g, off, none⟩))
    (hk : wpList P ops Q rest (a.put o.dst (.agg p.toArray)) w) : wpList P ops Q (o :: rest) a w := by
  refine wpList_step fun K hK => ?_
  rw [if_pos hw]
  unfold Oper.wp execOp
  simp only [ho, hx, Instr.loadAt, Instr.sureAddr, Sem.run_bind, Sem.run_pure, Result.andThen_ok, run_loadC hT h hp hl]
  exact hK _ _ hk
/-- A slice that reads as these bytes. -/
def IsB (w : World) (v : Value) (l : List UInt8) : Prop := ∃ A c, v = .slice A l.length c ∧ RB w w.heap.size A l c
theorem IsB.kept {w w' : World} {v : Value} {l : List UInt8} (h : IsB w v l) (hg : w.grownBy w' none) : IsB w' v l := by
  obtain ⟨A, c, hv, hr⟩ := h
  exact ⟨A, c, hv, hr.row_ hg⟩
theorem IsB.drew {w : World} {v : Value} {l : List UInt8} (h : IsB w v l) : IsB w.drew v l := h
theorem OwnB.isB {w : World} {base : Nat} {e : TypeId} {v : Value} {l : List UInt8} (h : OwnB w base e v l) : IsB w v l := by
  obtain ⟨A, c, hv, hr, _⟩ := h.shape
  exact ⟨A, c, hv, hr⟩
theorem OwnG.isB {w : World} {base : Nat} {e : TypeId} {v : Value} {l : List UInt8} (h : OwnG w base e v l) : IsB w v l := by
  obtain ⟨A, c, hv, hr, _⟩ := h.shape
  exact ⟨A, c, hv, hr⟩
theorem IsB.one {w : World} {v : Value} {l : List UInt8} (h : IsB w v l) : v.oneCell' = true := by
  obtain ⟨A, c, rfl, _⟩ := h
  rfl
end Go.Proofs.YtfpcabfpnekejaaDoor
namespace Go.Proofs.YtfpcabfpnekejaaDoor.NameLaid
open Go.ChangeShapes Go.WideShapes Go.ChangeAt Go.RowKit
open Go.ChangeMaps (open_string shut_string)
set_option linter.unusedVariables false

theorem wrap_both {H : Type} {enc : TypeId × Value → H} {a : Assume} {C : Checked} {os : Os} {f : FuncId} {fn : Func} {s : ChangeSpec} {conds : List PathCond} {apart fresh handsOn again : Bool} {X : World → Array Value → Prop}
    (hX : ∀ (w w' : World) (args : Array Value), w.heap = w'.heap → X w args → X w' args)
    (own : ownKnob C.prog.godebug = none) (started : os.Started) (noInit : C.prog.inits.idxOf? f = none) (hfn : C.prog.funcs[f]? = some fn)
    (witness : ∃ (w : World) (tape : Tape) (i : Input), w.os = os ∧ (w.forCall tape i).Shaped C.prog ∧ i.vars = [] ∧ Input.okWide C.prog (w.forCall tape i) .any w.heap.size f i ∧
      ((s.pre enc C.prog fn conds apart (w.forCall tape i).memory i.args ∧ X (w.forCall tape i).memory i.args) ∧ sizedMet enc C.prog fn (OpenSpec.ofChange s) apart (w.forCall tape i).memory i.args) ∧ a.holds C.prog (lone (Frame.enter C.prog f i.args .normal) [] (w.forCall tape i)))
    (contract : ∀ (W : World) (base : Nat) (args : Array Value) (ds gs : List (DataW H)) (before : List MemPlace),
      (∀ (j : Nat) t v, fn.params[j]? = some t → args[j]? = some v → Value.okWide C.prog W .any base t v) →
      DataW.Whole enc C.prog fn.params.toList s.vars apart W args.toList ds gs before →
      X W args → W.ShapedOpen C.prog →
      Calls C.prog f args W fun e W' => ∃ v, e = .returned v ∧ s.post enc C.prog fn apart fresh handsOn again W args v W') :
    ReturnsInHanded a C os f .any (fun w args => (s.pre enc C.prog fn conds apart w args ∧ X w args) ∧ sizedMet enc C.prog fn (OpenSpec.ofChange s) apart w args) (s.post enc C.prog fn apart fresh handsOn again) := by
  refine returnsInHanded_of_calls own started noInit witness ?_
  intro w tape i _ hsh _ hok hpre _
  obtain ⟨_, _, _, fn', hfn', _, _, _, _, hval⟩ := hok
  have e : fn' = fn := Option.some.inj (hfn'.symm.trans hfn)
  subst e
  obtain ⟨⟨⟨ds, gs, before, hw, _⟩, hx⟩, _⟩ := hpre
  have hw' := DataW.Whole.of_heap (w' := w.forCall tape i) (by rfl) hw
  refine (contract (w.forCall tape i) w.heap.size i.args ds gs before hval hw' (hX _ _ _ (by rfl) hx) hsh).mono fun e W' ⟨v, he, hp⟩ => ?_
  subst he
  exact ChangeSpec.post_blind hp

abbrev laids : List (String × DataW Unit) := [("unicode/utf8.acceptRanges", Rows.laid_unicode_utf8_acceptRanges), ("unicode/utf8.first", Rows.laid_unicode_utf8_first)]
theorem laid_met (os : Os) (args : Array Value) : laidMetH Tryd.prog laids ((World.laidAll Tryd.prog os laids).forCall (fun _ _ => 0) ⟨#[], args, []⟩).memory := by
  rw [MakeChecks.laidMetH_plain _ _ _ (by kernel_rfl)]
  exact laidMet_laidAll _ (by kernel_rfl) (by kernel_rfl)
theorem ml_of {W : World} (h : W.ShapedOpen Tryd.prog) : ML W := sh_laysM145.s1_3 W h
end Go.Proofs.YtfpcabfpnekejaaDoor.NameLaid
