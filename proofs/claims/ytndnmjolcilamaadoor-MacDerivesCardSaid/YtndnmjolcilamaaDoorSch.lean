/- The walk of schedule. -/
import Derived.Test.YtndnmjolcilamaaDoorWo
namespace Go.Proofs.YtndnmjolcilamaaDoor
open Go.RowKit

/-- The cells of words. -/
def wcells (l : List UInt32) : List Value := l.map fun u => Value.int .u32 (u.toNat : Int)
theorem wcells_length (l : List UInt32) : (wcells l).length = l.length := by simp [wcells]
theorem wcells_at (l : List UInt32) (k : Nat) : (wcells l)[k]? = (l[k]?).map fun u => Value.int .u32 (u.toNat : Int) := by simp [wcells]
theorem wcells_set (l : List UInt32) (k : Nat) (u : UInt32) : (wcells l).set k (.int .u32 (u.toNat : Int)) = wcells (l.set k u) := by simp [wcells, List.map_set]
theorem wcells_one (l : List UInt32) : ∀ u ∈ wcells l, u.oneCell' = true := by
  intro u hu
  obtain ⟨_, _, rfl⟩ := List.mem_map.1 hu
  rfl
theorem wcells_some {l : List UInt32} {k : Nat} {u : UInt32} (h : l[k]? = some u) : (wcells l)[k]? = some (.int .u32 (u.toNat : Int)) := by rw [wcells_at, h]; rfl
theorem bcells_some {l : List UInt8} {k : Nat} {u : UInt8} (h : l[k]? = some u) : (bcells l)[k]? = some (.int .u8 (u.toNat : Int)) := by rw [bcells_at, h]; rfl

theorem add_u32w (a b : UInt32) : IntKind.u32.wrap ((a.toNat : Int) + (b.toNat : Int)) = ((a + b).toNat : Int) := by
  rw [show ∀ y, IntKind.u32.wrap y = y % 4294967296 from fun _ => rfl, add_u32]
/-- n words of noughts. -/
def wz (n : Nat) : List UInt32 := List.replicate n 0
theorem wz_length (n : Nat) : (wz n).length = n := by simp [wz]

section
variable {P : Program} {w : World} {ops : Array Oper} {rest : List Oper} {o : Oper} {a : Act} {Q : Exit → Act → World → Prop} {ty : TypeId} {cs : List Value}
theorem run_allocC (hz : ∀ w, (zeroValue ty).run P w = .ok (.agg cs.toArray) w) (w : World) :
    (Instr.alloc ty true (.tuple #[])).run P w = .ok (.pointer (some ⟨w.heap.size, 0, none⟩)) (w.alloc (.cells cs.toArray ty)) := by
  simp [Instr.alloc, hz, newVar, newRow, Value.cells]
theorem wpList_allocC (hz : ∀ w, (zeroValue ty).run P w = .ok (.agg cs.toArray) w) (hgd : o.guard = none) (ho : o.op = .alloc ty)
    (hk : wpList P ops Q rest (a.put o.dst (.pointer (some ⟨w.heap.size, 0, none⟩))) (w.alloc (.cells cs.toArray ty))) : wpList P ops Q (o :: rest) a w := by
  refine wpList_plain hgd fun K hK => ?_
  unfold Oper.wp execOp
  simp only [ho, Sem.run_bind, run_allocC hz w, Result.andThen_ok, Sem.run_pure]
  exact hK _ _ hk
/-- The result that lies in a block. -/
theorem results_C {fn : Func} {p : Tmp} {e : TypeId} {n g : Nat} {t : TypeId} (ht : P.underlying ty = some (.array n e)) (hi : (P.info? ty).map (·.size) = some n) (hr : fn.results = #[.cell p ty]) (tmps : Array Value) (h : CB w g t cs) (hl : cs.length = n) (hp : tmps.getD p undef = .pointer (some ⟨g, 0, none⟩)) :
    (results fn tmps).run P w = .ok (.agg cs.toArray) w :=
  results_cell_row hr tmps w g t _ (0, 0) _ hp h ht rfl (by rw [hi, List.size_toArray, hl])
end

theorem agg64 : AggT Tryd.prog 91 64 := ⟨fun _ => by kernel_rfl, by kernel_rfl⟩
theorem zero64 (w : World) : (zeroValue 91).run Tryd.prog w = .ok (.agg (wcells (wz 64)).toArray) w := by kernel_rfl
theorem sz32 : (Tryd.prog.info? 90).map (·.size) = some 1 := by kernel_rfl
theorem sz64 : (Tryd.prog.info? 91).map (·.size) = some 64 := by kernel_rfl

/-- Word k of the schedule, out of the words before it. -/
def schedNew (bl : List UInt8) (ws : List UInt32) (k : Nat) : UInt32 :=
  if k < 16 then wordOf (bl.getD (4 * k) 0) (bl.getD (4 * k + 1) 0) (bl.getD (4 * k + 2) 0) (bl.getD (4 * k + 3) 0)
  else sLate (ws.getD (k - 2) 0) + ws.getD (k - 7) 0 + sEarly (ws.getD (k - 15) 0) + ws.getD (k - 16) 0
/-- The schedule, its first k words laid. -/
def schedTo (bl : List UInt8) : Nat → List UInt32
  | 0 => wz 64
  | k + 1 => (schedTo bl k).set k (schedNew bl (schedTo bl k) k)
theorem schedTo_length (bl : List UInt8) : ∀ k, (schedTo bl k).length = 64
  | 0 => wz_length 64
  | k + 1 => by rw [schedTo, List.length_set, schedTo_length bl k]
def sched (bl : List UInt8) : List UInt32 := schedTo bl 64
theorem sched_length (bl : List UInt8) : (sched bl).length = 64 := schedTo_length bl 64
theorem getD_some {α : Type} {l : List α} {k : Nat} {u d : α} (h : l[k]? = some u) : l.getD k d = u := by rw [List.getD, h]; rfl

theorem CB.new1 (w : World) (o1 : Obj) (t : TypeId) (cs : List Value) : CB ((w.alloc o1).alloc (.cells cs.toArray t)) (w.heap.size + 1) t cs := by
  have := CB.new (w.alloc o1) t cs
  rw [World.size_alloc] at this
  exact this
theorem CB.new2 (w : World) (o1 o2 : Obj) (t : TypeId) (cs : List Value) : CB (((w.alloc o1).alloc o2).alloc (.cells cs.toArray t)) (w.heap.size + 2) t cs := by
  have := CB.new ((w.alloc o1).alloc o2) t cs
  rw [World.size_alloc, World.size_alloc] at this
  exact this

set_option maxRecDepth 10000 in
set_option maxHeartbeats 1000000 in
theorem schedule_any (bl : List UInt8) (hl : bl.length = 64) (w : World) :
    Calls Tryd.prog 81 #[.agg (bcells bl).toArray] w fun e w' => e = .returned (.agg (wcells (sched bl)).toArray) ∧ w.grownBy w' none := by
  have HL := Lib.hid hl
  clear hl
  go_enter Tryd.func81, Tryd.ntmps81
  go_wp2_with (refine wpList_allocC zero64 rfl rfl ?_)
  go_loopw [6] (fun i wr => ∃ k : Nat, i = .int .i64 k ∧ k ≤ 16 ∧ CB wr w.heap.size 76 (bcells bl) ∧ CB wr (w.heap.size + 1) 91 (wcells (wz 64)) ∧ CB wr (w.heap.size + 2) 91 (wcells (schedTo bl k)) ∧ w.grownBy wr none) (fun i _ => 16 - (intOf i).toNat)
  case atStart => exact ⟨0, rfl, by omega, ((CB.new w _ _).alloc _).alloc _, (CB.new1 w _ _ _).alloc _, CB.new2 w _ _ _ _, grown_trans' (grown_trans' (grown_alloc _ _ _) (grown_alloc _ _ _)) (grown_alloc _ _ _)⟩
  case round =>
    obtain ⟨k, rfl, hk, hB, hR, hW, hG⟩ := hrel
    have hgs := hG.size
    by_cases hlt : k < 16
    · obtain ⟨m, hm⟩ : ∃ m, m = 4 * k := ⟨_, rfl⟩
      obtain ⟨a, ha⟩ : ∃ u, bl[m]? = some u := ⟨_, List.getElem?_eq_getElem (by rw [HL.out]; omega)⟩
      obtain ⟨b, hb⟩ : ∃ u, bl[m + 1]? = some u := ⟨_, List.getElem?_eq_getElem (by rw [HL.out]; omega)⟩
      obtain ⟨c, hc⟩ : ∃ u, bl[m + 2]? = some u := ⟨_, List.getElem?_eq_getElem (by rw [HL.out]; omega)⟩
      obtain ⟨d, hd⟩ : ∃ u, bl[m + 3]? = some u := ⟨_, List.getElem?_eq_getElem (by rw [HL.out]; omega)⟩
      have hn : schedTo bl (k + 1) = (schedTo bl k).set k (wordOf a b c d) := by
        rw [schedTo, schedNew, if_pos hlt, ← hm, getD_some ha, getD_some hb, getD_some hc, getD_some hd]
      have HN := Lib.hid hn
      have C0 := Lib.hid (hB.at_ (bcells_some ha))
      have C1 := Lib.hid (hB.at_ (bcells_some hb))
      have C2 := Lib.hid (hB.at_ (bcells_some hc))
      have C3 := Lib.hid (hB.at_ (bcells_some hd))
      have HB := Lib.hid hB
      have HR := Lib.hid hR
      have HW := Lib.hid hW
      have HG := Lib.hid hG
      have hki : (k : Int) < 16 := by omega
      have w1 : (k : Int) * 4 = (m : Int) := by omega
      have w2 : IntKind.i64.wrap (m : Int) = (m : Int) := by rw [IntKind.wrap_i64]; omega
      have b1 : (m : Int) ≤ 64 := by omega
      have b2 : ¬ (64 = m) := by omega
      have b3 : (m : Int) < 64 := by omega
      have h4 : 4 ≤ 64 - m := by omega
      clear hn ha hb hc hd hB hR hW hG hm
      go_wp2_with (first
        | (go_at_call 96; refine (word_any _ m _ _ a b c d _ h4 C0.out C1.out C2.out C3.out).mono ?_; rintro e w3 ⟨rfl, hg3⟩; have HW3 := Lib.hid (HW.out.kept hg3); have HB3 := Lib.hid (HB.out.kept hg3); have HR3 := Lib.hid (HR.out.kept hg3); have HG3 := Lib.hid (grown_trans' HG.out hg3); clear hg3)
        | (refine wpList_setC sz32 rfl (.tmp 14) (.tmp 13) rfl .u32 _ HW3.out (by rw [wcells_length, schedTo_length]; omega) rfl rfl ?_; intro w4 h4 g4; rw [wcells_set] at h4; have HW4 := Lib.hid h4; have HB4 := Lib.hid (HB3.out.grown g4 (by omega)); have HR4 := Lib.hid (HR3.out.grown g4 (by omega)); have HG4 := Lib.hid (none_new HG3.out g4 (by omega)); clear h4 g4))
      go_roundw
      case rel => exact ⟨k + 1, by go_num, by omega, HB4.out, HR4.out, by rw [HN.out]; exact HW4.out, HG4.out⟩
      case measure => simp [intOf]; omega
    · obtain rfl : k = 16 := by omega
      have HR := Lib.hid hR
      have HW := Lib.hid hW
      have HG := Lib.hid hG
      clear hR hW hG hB
      obtain ⟨w9, hw9⟩ : ∃ w9 : World, w9 = wr := ⟨_, rfl⟩
      rw [← hw9] at HR HW HG
      clear hgs
      subst hw9
      rw [show ((16 : Nat) : Int) = 16 from rfl]
      go_wp2
      go_loopw [5] (fun i wr => ∃ k : Nat, i = .int .i64 k ∧ 16 ≤ k ∧ k ≤ 64 ∧ CB wr (w.heap.size + 1) 91 (wcells (wz 64)) ∧ CB wr (w.heap.size + 2) 91 (wcells (schedTo bl k)) ∧ w.grownBy wr none) (fun i _ => 64 - (intOf i).toNat)
      case atStart => exact ⟨16, rfl, by omega, by omega, HR.out, HW.out, HG.out⟩
      case round =>
        obtain ⟨k, rfl, hk, hk2, hR, hW, hG⟩ := hrel
        have hgs := hG.size
        by_cases hlt : k < 64
        · obtain ⟨q2, e2⟩ : ∃ m, m = k - 2 := ⟨_, rfl⟩
          obtain ⟨q7, e7⟩ : ∃ m, m = k - 7 := ⟨_, rfl⟩
          obtain ⟨q15, e15⟩ : ∃ m, m = k - 15 := ⟨_, rfl⟩
          obtain ⟨q16, e16⟩ : ∃ m, m = k - 16 := ⟨_, rfl⟩
          obtain ⟨x2, h2⟩ : ∃ u, (schedTo bl k)[q2]? = some u := ⟨_, List.getElem?_eq_getElem (by rw [schedTo_length]; omega)⟩
          obtain ⟨x7, h7⟩ : ∃ u, (schedTo bl k)[q7]? = some u := ⟨_, List.getElem?_eq_getElem (by rw [schedTo_length]; omega)⟩
          obtain ⟨x15, h15⟩ : ∃ u, (schedTo bl k)[q15]? = some u := ⟨_, List.getElem?_eq_getElem (by rw [schedTo_length]; omega)⟩
          obtain ⟨x16, h16⟩ : ∃ u, (schedTo bl k)[q16]? = some u := ⟨_, List.getElem?_eq_getElem (by rw [schedTo_length]; omega)⟩
          have hn : schedTo bl (k + 1) = (schedTo bl k).set k (sLate x2 + x7 + sEarly x15 + x16) := by
            rw [schedTo, schedNew, if_neg (by omega), ← e2, ← e7, ← e15, ← e16, getD_some h2, getD_some h7, getD_some h15, getD_some h16]
          have c2 := hW.at_ (wcells_some h2)
          have c7 := hW.at_ (wcells_some h7)
          have c15 := hW.at_ (wcells_some h15)
          have c16 := hW.at_ (wcells_some h16)
          have HN := Lib.hid hn
          have hd1 := fun W => (spreadLate_any x2 W).mono fun _ _ h => And.intro h.1 h.2.symm
          have hd2 := fun W => (spreadEarly_any x15 W).mono fun _ _ h => And.intro h.1 h.2.symm
          have a1 := add_u32w (sLate x2) x7
          have a2 := add_u32w (sLate x2 + x7) (sEarly x15)
          have a3 := add_u32w (sLate x2 + x7 + sEarly x15) x16
          generalize sLate x2 + x7 + sEarly x15 + x16 = z at *
          generalize sLate x2 + x7 + sEarly x15 = y at *
          generalize sLate x2 + x7 = x at *
          generalize sEarly x15 = s15 at *
          generalize sLate x2 = s2 at *
          have HD1 := Lib.hid hd1
          have HD2 := Lib.hid hd2
          have w2 : IntKind.i64.wrap ((k : Int) - 2) = (q2 : Int) := by rw [IntKind.wrap_i64]; omega
          have w7 : IntKind.i64.wrap ((k : Int) - 7) = (q7 : Int) := by rw [IntKind.wrap_i64]; omega
          have w15 : IntKind.i64.wrap ((k : Int) - 15) = (q15 : Int) := by rw [IntKind.wrap_i64]; omega
          have w16 : IntKind.i64.wrap ((k : Int) - 16) = (q16 : Int) := by rw [IntKind.wrap_i64]; omega
          have b2 : (q2 : Int) < 64 := by omega
          have b7 : (q7 : Int) < 64 := by omega
          have b15 : (q15 : Int) < 64 := by omega
          have b16 : (q16 : Int) < 64 := by omega
          have hki : (k : Int) < 64 := by omega
          have HLT := Lib.hid hlt
          have HK := Lib.hid hk
          have HWL := Lib.hid (show k < (wcells (schedTo bl k)).length by rw [wcells_length, schedTo_length]; exact hlt)
          have HR := Lib.hid hR
          have HW := Lib.hid hW
          have HG := Lib.hid hG
          clear hn hd1 hd2 hR hW hG h2 h7 h15 h16 e2 e7 e15 e16 hlt hk hk2
          go_wp2
          go_still_tail 23, (by kernel_rfl)
          still_call (HD1.out _)
          repeat still_step
          still_call (HD2.out _)
          repeat still_step
          refine wpStill_nil ?_
          clear w2 w7 w15 w16
          change wpList _ _ _ _ _ wr.drew
          go_wp2_with (refine wpList_setC sz32 rfl (.tmp 42) (.tmp 41) rfl .u32 _ HW.out.drew HWL.out rfl rfl ?_; intro w4 h4 g4; rw [wcells_set] at h4; have HW4 := Lib.hid h4; have HR4 := Lib.hid (HR.out.drew.grown g4 (by omega)); have HG4 := Lib.hid (none_new (grown_drew HG.out) g4 (by omega)); clear h4 g4)
          go_roundw
          case rel => exact ⟨k + 1, by go_num, by have := HK.out; omega, by have := HLT.out; omega, HR4.out, by rw [HN.out]; exact HW4.out, HG4.out⟩
          case measure => have := HLT.out; simp [intOf]; omega
        · obtain rfl : k = 64 := by omega
          have HR := Lib.hid hR
          have HW := Lib.hid hW
          have HG := Lib.hid hG
          clear hR hW hG
          go_wp2_with (first
            | refine wpList_loadC (p := wcells (sched bl)) agg64 rfl (.tmp 3) rfl HW.out (by rw [List.drop_zero]; exact List.take_of_length_le (by rw [wcells_length, schedTo_length]; omega)) (by rw [wcells_length, schedTo_length]; omega) rfl ?_
            | (refine wpList_storeC (p := wcells (sched bl)) sz64 rfl (.tmp 2) (.tmp 43) rfl (.agg (wcells (sched bl)).toArray) rfl (wcells_one _) HR.out (by rw [wcells_length, sched_length]) (by rw [wcells_length, wz_length]; omega) rfl rfl ?_; intro w5 h5 g5))
          have ho : over (wcells (wz 64)) 0 (wcells (sched bl)) = wcells (sched bl) := by
            rw [over, List.take_zero, List.nil_append, List.drop_eq_nil_of_le (by rw [wcells_length, wcells_length, sched_length, wz_length]; omega), List.append_nil]
          rw [ho] at h5
          exact bodyPost_ret (results_C Tryd.underlying91 sz64 rfl _ h5 (by rw [wcells_length, sched_length]) rfl) rfl ⟨rfl, none_new HG.out g5 (by omega)⟩
end Go.Proofs.YtndnmjolcilamaaDoor
