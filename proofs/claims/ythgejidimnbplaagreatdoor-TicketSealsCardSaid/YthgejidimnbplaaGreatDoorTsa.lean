/- A Sealer by symbols: Open, Drawn; the document's example; what is great. -/
import Derived.Test.YthgejidimnbplaaGreatDoorSee
import Derived.Lib.SlBytesConst
import Derived.Test.YthgejidimnbplaaGreatDoorTkx
import Derived.Test.YthgejidimnbplaaGreatDoorTkp
import Derived.Test.YthgejidimnbplaaGreatDoorTke
namespace Go.Proofs.YthgejidimnbplaaGreatDoor
open Go.RowKit Go.Maps

theorem Opened.trans {w w1 w' : World} {o : Option (List UInt8)} {e : Ending} (hg : w.grownBy w1 none) (h : Opened w1 o e w') : Opened w o e w' := by
  refine ⟨grown_trans' hg h.1, ?_⟩
  have h2 := h.2
  cases o with
  | none => exact h2
  | some p =>
    obtain ⟨A, c, h3, h4⟩ := h2
    exact ⟨A, c, h3, h4.base_ hg.size⟩
set_option maxRecDepth 10000 in
set_option maxHeartbeats 1000000 in
theorem open_any (w : World) (B s : Nat) (r : Option Nat) (T : List Te) (d : Nat) (h : SS w B s r T d) (key : List UInt8) (u : Int) (A : Option Addr) (box : List UInt8) (n cap : Nat) (hk : key.length = 16) (hn : box.length = n) (hp : RB w w.heap.size A box cap) (hb : n ≤ 1000000) (hT : T.length < 1000000) (hpl : ∀ t ∈ T, t.2.2.length ≤ 100000) :
    Calls Tryz.prog 11 #[.pointer (some ⟨s, 0, none⟩), .agg (bcells key).toArray, .int .i64 u, .slice A n cap] w fun e w' => Opened w (openS T key u box) e w' := by
  have G0 := Lib.hid (grown_alloc w (.cells (bcells key).toArray 23) none)
  have K0 := Lib.hid (CB.new w 23 (bcells key))
  have HK := Lib.hid hk
  have S0 := Lib.hid (h.none G0.out)
  obtain ⟨-, -, v, rows, -, hcb, -⟩ := S0.out
  have q0 := hcb.at_ (seC_sy d T.length v)
  have HC := Lib.hid (openSym_any _ B s r T d S0.out key u A box n cap hk hn (hp.keptS G0.out) hb hT hpl)
  clear h hk hn hp hb hT hpl hcb
  obtain ⟨o, ho⟩ : ∃ o, openS T key u box = o := ⟨_, rfl⟩
  rw [ho] at HC ⊢
  clear ho
  cases o with
  | none =>
    go_enter Tryz.func11, Tryz.ntmps11
    go_wp2_with (first
      | (refine wpList_loadC (off := 0) (p := bcells key) aggKy rfl (.tmp 5) rfl K0.out (take_all (by rw [bcells_length]; exact HK.out)) (by rw [bcells_length, HK.out]; omega) (by first | rfl | go_simp) ?_)
      | (go_at_call 19; refine HC.out.mono ?_; rintro e w2 ⟨g, rfl⟩; have G2 := Lib.hid (grown_trans' G0.out g); clear g))
    go_ret2
    exact ⟨G2.out, rfl⟩
  | some p =>
    go_enter Tryz.func11, Tryz.ntmps11
    go_wp2_with (first
      | (refine wpList_loadC (off := 0) (p := bcells key) aggKy rfl (.tmp 5) rfl K0.out (take_all (by rw [bcells_length]; exact HK.out)) (by rw [bcells_length, HK.out]; omega) (by first | rfl | go_simp) ?_)
      | (go_at_call 19; refine HC.out.mono ?_; rintro e w2 ⟨g, A5, c5, rfl, o5⟩; have G2 := Lib.hid (grown_trans' G0.out g); have O5 := Lib.hid (o5.base_ G0.out.size); clear g o5))
    go_ret2
    exact ⟨G2.out, A5, c5, rfl, O5.out⟩
theorem run_buildZ (w : World) : (Instr.build 23 #[]).run Tryz.prog w = .ok (.agg (bcells (zeros 16)).toArray) w := by kernel_rfl
theorem run_build1 (w : World) : (Instr.build 23 #[(0, .int .u8 1)]).run Tryz.prog w = .ok (.agg (bcells (1 :: zeros 15)).toArray) w := by kernel_rfl
theorem run_build2 (w : World) : (Instr.build 23 #[(0, .int .u8 2)]).run Tryz.prog w = .ok (.agg (bcells (2 :: zeros 15)).toArray) w := by kernel_rfl
theorem speaks_o1 : openS [(1 :: zeros 15, 2, [120])] (1 :: zeros 15) 2 (boxN 0) = some [120] := by decide +kernel
theorem speaks_o2 : openS [(1 :: zeros 15, 2, [120])] (2 :: zeros 15) 2 (boxN 0) = none := by decide +kernel
theorem speaks_o3 : openS [(1 :: zeros 15, 2, [120])] (1 :: zeros 15) 3 (boxN 0) = none := by decide +kernel
theorem ownB_rb {w : World} {base n c : Nat} {e : TypeId} {A : Option Addr} {l : List UInt8} (h : OwnB w base e (.slice A n c) l) : RB w w.heap.size A l c := by
  obtain ⟨A', c', hv, hr, -⟩ := OwnB.shape h
  injection hv with h1 _ h2
  subst h1 h2
  exact hr
/-- A Sealer that wasn't there yet, and all that it has, is new memory. -/
theorem wrs_new {a b c : World} {s : Nat} (h : a.grownBy b none) (k : Wrs b c s none) (hs : a.heap.size ≤ s) : a.grownBy c none :=
  ⟨k.os.trans h.os, k.tape.trans h.tape, k.output.trans h.output, Nat.le_trans h.size k.size, fun i hi hr => (k.block i (Nat.lt_of_lt_of_le hi h.size) (by omega) (by simp)).trans (h.block i hi hr)⟩
end Go.Proofs.YthgejidimnbplaaGreatDoor
namespace Go.Proofs.YthgejidimnbplaaGreatDoor
open Go.RowKit Go.Maps

theorem wpList_buildVt {P : Program} {ops : Array Oper} {Q : Exit → Act → World → Prop} {rest : List Oper} {o : Oper} {a : Act} {w : World} {t : TypeId} {parts : Array (Nat × Operand)} {ps : Array (Nat × Value)} {v : Value} (hgd : o.guard = none) (ho : o.op = .build t parts) (hp : parts.map (fun (i, x) => (i, a.eval x)) = ps) (hr : (Instr.build t ps).run P w = .ok v w)
    (hk : wpList P ops Q rest (a.put o.dst v) w) : wpList P ops Q (o :: rest) a w := by
  refine wpList_plain hgd fun K hK => ?_
  unfold Oper.wp execOp
  have hp' : parts.map (fun (i, x) => (i, a.eval x)) = ps := hp
  simp only [ho, hp', Sem.run_bind, Sem.run_pure, Result.andThen_ok, hr]
  exact hK _ _ hk
theorem wpList_buildVg {P : Program} {ops : Array Oper} {Q : Exit → Act → World → Prop} {rest : List Oper} {o : Oper} {a : Act} {w : World} {t : TypeId} {parts : Array (Nat × Operand)} {ps : Array (Nat × Value)} {v : Value} (ho : o.op = .build t parts) (hw : Region.wanted o (yielded ops a.tmps) = true) (hp : parts.map (fun (i, x) => (i, a.eval x)) = ps) (hr : (Instr.build t ps).run P w = .ok v w)
    (hk : wpList P ops Q rest (a.put o.dst v) w) : wpList P ops Q (o :: rest) a w := by
  refine wpList_step fun K hK => ?_
  rw [if_pos hw]
  unfold Oper.wp execOp
  have hp' : parts.map (fun (i, x) => (i, a.eval x)) = ps := hp
  simp only [ho, hp', Sem.run_bind, Sem.run_pure, Result.andThen_ok, hr]
  exact hK _ _ hk
theorem openS_one (key other : List UInt8) (u : Int) (Y : List UInt8) : openS [(key, u, Y)] other u (boxN 0) = if key = other then some Y else none := by
  unfold openS
  rw [if_pos ⟨boxN_len 0, rfl⟩]
  have h0 : numOf ((boxN 0).drop 1) = 0 := numOf_wide 0 (by omega)
  rw [h0]
  by_cases h : key = other
  · simp [h]
  · simp [h]
/-- More than sixteen bytes in a row don't lie within a Sealer. -/
theorem SS.far {w : World} {B s : Nat} {d : Nat} {T : List Te} (h : SS w B s Option.none T d) {A : Option Addr} {l : List UInt8} {c : Nat} (hp : RB w w.heap.size A l c) (hl : 16 < l.length) : ∀ a, A = some a → l = [] ∨ (a.block ≠ s ∧ (Option.none : Option Nat) ≠ some a.block) := by
  intro a ha
  refine .inr ⟨fun e => ?_, by simp⟩
  obtain ⟨b, off, h1, -, hc⟩ := hp.open_ (by omega)
  rw [ha] at h1
  injection h1 with h1
  subst h1
  simp only at e
  subst e
  obtain ⟨-, -, v, rows, -, h3, h4, -⟩ := h
  have hv : ∀ k z, v ≠ .int k z := by
    rcases h4.1.2 with ⟨rfl, _⟩ | ⟨g, cap, cur, rfl, _⟩ <;> intro k z q <;> cases q
  have key : ∀ i (k : Nat) (hk : k < l.length), off + k = i → ∀ x, (seC d T.length v)[i]? = some x → x = .int .u8 ((l[k]'hk).toNat : Int) := by
    intro i k hk hi x hx
    have h5 := hc k hk
    rw [hi, h3.at_ hx] at h5
    injection h5
  by_cases c0 : off = 0
  · have := key 0 0 (by omega) (by omega) _ (seC_sy d T.length v)
    cases this
  by_cases c1 : off ≤ 17
  · have := key 17 (17 - off) (by omega) (by omega) _ (seC_dr d T.length v)
    cases this
  by_cases c2 : off = 18
  · have := key 18 0 (by omega) (by omega) _ (seC_se d T.length v)
    cases this
  by_cases c3 : off = 19
  · exact hv _ _ (key 19 0 (by omega) (by omega) _ (seC_te d T.length v))
  · have h5 := hc 0 (by omega)
    have h6 := cell_of_row w b (off + 0) _ _ (0, 0) h3
    rw [h5, List.getElem?_toArray, List.getElem?_eq_none (by rw [seC_len]; omega)] at h6
    cases h6
theorem tBytes_len {lc ls k : List UInt8} {st en fl : Int} (h : tOk lc ls st en fl = true) (hk : k.length = 16) : 16 < (bytesF (tFields lc ls k st.toNat en.toNat fl.toNat)).length ∧ (bytesF (tFields lc ls k st.toNat en.toNat fl.toNat)).length ≤ 2000 := by
  obtain ⟨h1, h2⟩ := tOk_len h
  have nst := numB_length st.toNat
  have nen := numB_length en.toNat
  have nfl := numB_length fl.toNat
  rw [bytesF_length]
  simp only [tot, tFields, List.map_cons, List.map_nil, List.sum_cons, List.sum_nil]
  omega
end Go.Proofs.YthgejidimnbplaaGreatDoor
