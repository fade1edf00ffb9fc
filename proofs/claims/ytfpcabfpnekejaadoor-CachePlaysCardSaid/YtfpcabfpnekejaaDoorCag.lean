/- Scripts of tickets that came in; the walks of great, Same. -/
import Derived.Test.YtfpcabfpnekejaaDoorCae
namespace Go.Proofs.YtfpcabfpnekejaaDoor
open Go.ChangeShapes Go.WideShapes Go.RowKit Go.Maps Go.WideMaps
set_option linter.unusedVariables false

section
variable {H : Type} {enc : TypeId × Value → H} {w : World} {base : Nat} {held : Bool}
theorem bytes_of_trodC {n : Nat} {cs : List Value} {x : DataW H × List MemPlace}
    (h : DataW.trod enc Tryd.prog w base (fun _ => true) held n 31 cs = some x) : ∃ (A : Option Addr) (l : List UInt8) (c : Nat), cs = [.slice A l.length c] ∧ RB w w.heap.size A l c := by
  rcases open_ints Tryd.underlying31 Tryd.underlying5 (by kernel_rfl) h with ⟨hcs, _⟩ | ⟨x, l, c, zs, hcs, _, hl, hm, hz, _, hcell, hwz⟩
  · exact ⟨none, [], 0, hcs, RB.nil_ _ _⟩
  · obtain ⟨m, hml, hr⟩ := RB.of_ints (w := w) (A := some x) (len := l) (cap := c) (zs := zs) (.inr ⟨x, rfl, hl, hm, by simpa using hz, hcell, hwz⟩)
    exact ⟨some x, m, c, by rw [hcs, hml], hr⟩
set_option maxRecDepth 10000 in
theorem grant_of_trodC {fuel : Nat} {cs : List Value} {x : DataW H × List MemPlace} (hlen : cs.length = 21) (hf0 : DataW.trod enc Tryd.prog w base (fun _ => true) held fuel 36 cs = some x) :
    ∃ (s : ByteArray) (k : List UInt8) (no st en fl : Int), cs = gcells s k no st en fl ∧ k.length = 16 ∧ (0 ≤ no ∧ no ≤ 18446744073709551615) ∧ I64c st ∧ I64c en ∧ I64c fl := by
  obtain ⟨xs, n, _, _, _, hxl, hf⟩ := DataW.trod_struct Tryd.underlying36 hf0
  have hCk : Tryd.prog.cellsOf 33 = 16 := by kernel_rfl
  have hC6 : Tryd.prog.cellsOf 2 = 1 := by kernel_rfl
  have hCu : Tryd.prog.cellsOf 34 = 1 := by kernel_rfl
  have hCs : Tryd.prog.cellsOf 9 = 1 := by kernel_rfl
  have hCi : Tryd.prog.cellsOf 3 = 1 := by kernel_rfl
  have hCb : Tryd.prog.cellsOf 31 = 1 := by kernel_rfl
  have hCg : Tryd.prog.cellsOf 36 = 21 := by kernel_rfl
  have hCc : Tryd.prog.cellsOf 38 = 23 := by kernel_rfl
  match xs, hxl with
  | [y0, y1, y2, y3, y4, y5], _ =>
    have h0 := hf 0 _ rfl
    change DataW.trod enc Tryd.prog w base (fun _ => true) held n 9 (List.take (Tryd.prog.cellsOf 9) (List.drop 0 cs)) = some y0 at h0
    rw [hCs] at h0
    obtain ⟨s, e0, _, _⟩ := DataW.trod_string Tryd.underlying9 h0
    have h1 := hf 1 _ rfl
    change DataW.trod enc Tryd.prog w base (fun _ => true) held n 33 (List.take (Tryd.prog.cellsOf 33) (List.drop 1 cs)) = some y1 at h1
    rw [hCk] at h1
    obtain ⟨k, e1, hk⟩ := arr_of_trodB Tryd.underlying33 Tryd.underlying5 (by kernel_rfl) (by rw [List.length_take, List.length_drop, hlen]; rfl) h1
    have h2 := hf 2 _ rfl
    change DataW.trod enc Tryd.prog w base (fun _ => true) held n 34 (List.take (Tryd.prog.cellsOf 34) (List.drop 17 cs)) = some y2 at h2
    rw [hCu] at h2
    obtain ⟨no, e2, _, w2⟩ := DataW.trod_int Tryd.underlying34 h2
    have h3 := hf 3 _ rfl
    change DataW.trod enc Tryd.prog w base (fun _ => true) held n 2 (List.take (Tryd.prog.cellsOf 2) (List.drop 18 cs)) = some y3 at h3
    rw [hC6] at h3
    obtain ⟨st, e3, _, w3⟩ := DataW.trod_int Tryd.underlying2 h3
    have h4 := hf 4 _ rfl
    change DataW.trod enc Tryd.prog w base (fun _ => true) held n 2 (List.take (Tryd.prog.cellsOf 2) (List.drop 19 cs)) = some y4 at h4
    rw [hC6] at h4
    obtain ⟨en, e4, _, w4⟩ := DataW.trod_int Tryd.underlying2 h4
    have h5 := hf 5 _ rfl
    change DataW.trod enc Tryd.prog w base (fun _ => true) held n 3 (List.take (Tryd.prog.cellsOf 3) (List.drop 20 cs)) = some y5 at h5
    rw [hCi] at h5
    obtain ⟨fl, e5, _, w5⟩ := DataW.trod_int Tryd.underlying3 h5
    refine ⟨s, k, no, st, en, fl, ?_, hk, bounds_u64 w2, wf64 w3, wf64 w4, wf64 w5⟩
    have hall : cs.drop 0 = gcells s k no st en fl := by
      rw [drop_stepB cs 0 1, e0, show 0 + 1 = 1 from rfl]
      rw [drop_stepB cs 1 16, e1, show 1 + 16 = 17 from rfl]
      rw [drop_stepB cs 17 1, e2, show 17 + 1 = 18 from rfl]
      rw [drop_stepB cs 18 1, e3, show 18 + 1 = 19 from rfl]
      rw [drop_stepB cs 19 1, e4, show 19 + 1 = 20 from rfl]
      rw [drop_stepB cs 20 1, e5, show 20 + 1 = 21 from rfl]
      rw [List.drop_eq_nil_of_le (by omega)]
      simp [gcells]
    rw [List.drop_zero] at hall
    exact hall
set_option maxRecDepth 10000 in
theorem cred_of_trod {fuel : Nat} {cs : List Value} {x : DataW H × List MemPlace} (hlen : cs.length = 23) (hf0 : DataW.trod enc Tryd.prog w base (fun _ => true) held fuel 38 cs = some x) : ∃ p : Ce, cs = ceC p ∧ cdW p.1 ∧ RB w w.heap.size p.2.1 p.1.tk p.2.2 := by
  obtain ⟨xs, n, _, _, _, hxl, hf⟩ := DataW.trod_struct Tryd.underlying38 hf0
  have hCk : Tryd.prog.cellsOf 33 = 16 := by kernel_rfl
  have hC6 : Tryd.prog.cellsOf 2 = 1 := by kernel_rfl
  have hCu : Tryd.prog.cellsOf 34 = 1 := by kernel_rfl
  have hCs : Tryd.prog.cellsOf 9 = 1 := by kernel_rfl
  have hCi : Tryd.prog.cellsOf 3 = 1 := by kernel_rfl
  have hCb : Tryd.prog.cellsOf 31 = 1 := by kernel_rfl
  have hCg : Tryd.prog.cellsOf 36 = 21 := by kernel_rfl
  have hCc : Tryd.prog.cellsOf 38 = 23 := by kernel_rfl
  match xs, hxl with
  | [y0, y1, y2], _ =>
    have h0 := hf 0 _ rfl
    change DataW.trod enc Tryd.prog w base (fun _ => true) held n 9 (List.take (Tryd.prog.cellsOf 9) (List.drop 0 cs)) = some y0 at h0
    rw [hCs] at h0
    obtain ⟨c, e0, _, _⟩ := DataW.trod_string Tryd.underlying9 h0
    have h1 := hf 1 _ rfl
    change DataW.trod enc Tryd.prog w base (fun _ => true) held n 31 (List.take (Tryd.prog.cellsOf 31) (List.drop 1 cs)) = some y1 at h1
    rw [hCb] at h1
    obtain ⟨A, t, cp, e1, hr⟩ := bytes_of_trodC h1
    have h2 := hf 2 _ rfl
    change DataW.trod enc Tryd.prog w base (fun _ => true) held n 36 (List.take (Tryd.prog.cellsOf 36) (List.drop 2 cs)) = some y2 at h2
    rw [hCg] at h2
    obtain ⟨s, k, no, st, en, fl, e2, hk, hno, hst, hen, hfl⟩ := grant_of_trodC (by rw [List.length_take, List.length_drop, hlen]; rfl) h2
    refine ⟨(⟨c.data.toList, t, s.data.toList, k, no.toNat, st, en, fl⟩, A, cp), ?_, ⟨hk, by show no.toNat < 18446744073709551616; omega, hst, hen, hfl⟩, hr⟩
    have hall : cs.drop 0 = [.string c] ++ ([.slice A t.length cp] ++ gcells s k no st en fl) := by
      rw [drop_stepB cs 0 1, e0, show 0 + 1 = 1 from rfl]
      rw [drop_stepB cs 1 1, e1, show 1 + 1 = 2 from rfl]
      rw [drop_stepB cs 2 21, e2, show 2 + 21 = 23 from rfl]
      rw [List.drop_eq_nil_of_le (by omega), List.append_nil]
    rw [List.drop_zero] at hall
    rw [hall]
    show [Value.string c] ++ ([.slice A t.length cp] ++ gcells s k no st en fl) = [.string c, .slice A t.length cp] ++ gcells s k ((no.toNat : Nat) : Int) st en fl
    rw [Int.toNat_of_nonneg hno.1]
    rfl
end
/-- An operation: kind, time, server, ticket. -/
abbrev Op11 := Int × Int × List UInt8 × Ce
def op11C (o : Op11) : List Value := [.int .i64 o.1, .int .i64 o.2.1, .string ⟨o.2.2.1.toArray⟩] ++ ceC o.2.2.2
structure op11W (w : World) (o : Op11) : Prop where
  k : I64c o.1
  t : I64c o.2.1
  p : cdW o.2.2.2.1
  r : RB w w.heap.size o.2.2.2.2.1 o.2.2.2.1.tk o.2.2.2.2.2
theorem op11C_len {w : World} {o : Op11} (h : op11W w o) : (op11C o).length = 26 := by rw [op11C, List.length_append, ceC, cdC_length h.p.lk]; rfl
theorem op11C_one (o : Op11) : ∀ u ∈ op11C o, u.oneCell' = true := by
  intro u hu
  rcases List.mem_append.1 hu with hu | hu
  · simp only [List.mem_cons, List.not_mem_nil, or_false] at hu
    rcases hu with rfl | rfl | rfl <;> rfl
  · exact cdC_one _ _ _ u hu
theorem op11C_now (o : Op11) : (op11C o)[1]? = some (.int .i64 o.2.1) := rfl
theorem op11C_k (o : Op11) : (op11C o)[0]? = some (.int .i64 o.1) := rfl
theorem op11C_server (o : Op11) : (op11C o)[2]? = some (.string ⟨o.2.2.1.toArray⟩) := rfl
theorem op11C_cl (o : Op11) : (op11C o)[3]? = some (.string ⟨o.2.2.2.1.cl.toArray⟩) := rfl
theorem op11C_tk (o : Op11) : (op11C o)[4]? = some (.slice o.2.2.2.2.1 o.2.2.2.1.tk.length o.2.2.2.2.2) := rfl
theorem op11C_sv (o : Op11) : (op11C o)[5]? = some (.string ⟨o.2.2.2.1.sv.toArray⟩) := rfl
theorem op11C_p {w : World} {o : Op11} (h : op11W w o) : ((op11C o).drop 3).take 23 = ceC o.2.2.2 := by
  show (ceC o.2.2.2).take 23 = _
  exact List.take_of_length_le (by rw [ceC, cdC_length h.p.lk]; exact Nat.le_refl _)
section
variable {H : Type} {enc : TypeId × Value → H} {w : World} {base : Nat} {held : Bool}
set_option maxRecDepth 10000 in
theorem op11_of_trod {fuel : Nat} {cs : List Value} {x : DataW H × List MemPlace} (hlen : cs.length = 26) (hf0 : DataW.trod enc Tryd.prog w base (fun _ => true) held fuel 40 cs = some x) : ∃ o : Op11, cs = op11C o ∧ op11W w o := by
  obtain ⟨xs, n, _, _, _, hxl, hf⟩ := DataW.trod_struct Tryd.underlying40 hf0
  have hCk : Tryd.prog.cellsOf 33 = 16 := by kernel_rfl
  have hC6 : Tryd.prog.cellsOf 2 = 1 := by kernel_rfl
  have hCu : Tryd.prog.cellsOf 34 = 1 := by kernel_rfl
  have hCs : Tryd.prog.cellsOf 9 = 1 := by kernel_rfl
  have hCi : Tryd.prog.cellsOf 3 = 1 := by kernel_rfl
  have hCb : Tryd.prog.cellsOf 31 = 1 := by kernel_rfl
  have hCg : Tryd.prog.cellsOf 36 = 21 := by kernel_rfl
  have hCc : Tryd.prog.cellsOf 38 = 23 := by kernel_rfl
  match xs, hxl with
  | [y0, y1, y2, y3], _ =>
    have h0 := hf 0 _ rfl
    change DataW.trod enc Tryd.prog w base (fun _ => true) held n 3 (List.take (Tryd.prog.cellsOf 3) (List.drop 0 cs)) = some y0 at h0
    rw [hCi] at h0
    obtain ⟨k, e0, _, w0⟩ := DataW.trod_int Tryd.underlying3 h0
    have h1 := hf 1 _ rfl
    change DataW.trod enc Tryd.prog w base (fun _ => true) held n 2 (List.take (Tryd.prog.cellsOf 2) (List.drop 1 cs)) = some y1 at h1
    rw [hC6] at h1
    obtain ⟨t, e1, _, w1⟩ := DataW.trod_int Tryd.underlying2 h1
    have h2 := hf 2 _ rfl
    change DataW.trod enc Tryd.prog w base (fun _ => true) held n 9 (List.take (Tryd.prog.cellsOf 9) (List.drop 2 cs)) = some y2 at h2
    rw [hCs] at h2
    obtain ⟨s, e2, _, _⟩ := DataW.trod_string Tryd.underlying9 h2
    have h3 := hf 3 _ rfl
    change DataW.trod enc Tryd.prog w base (fun _ => true) held n 38 (List.take (Tryd.prog.cellsOf 38) (List.drop 3 cs)) = some y3 at h3
    rw [hCc] at h3
    obtain ⟨p, e3, hp, hr⟩ := cred_of_trod (by rw [List.length_take, List.length_drop, hlen]; rfl) h3
    refine ⟨(k, t, s.data.toList, p), ?_, ⟨wf64 w0, wf64 w1, hp, hr⟩⟩
    have hall : cs.drop 0 = [.int .i64 k] ++ ([.int .i64 t] ++ ([.string s] ++ ceC p)) := by
      rw [drop_stepB cs 0 1, e0, show 0 + 1 = 1 from rfl]
      rw [drop_stepB cs 1 1, e1, show 1 + 1 = 2 from rfl]
      rw [drop_stepB cs 2 1, e2, show 2 + 1 = 3 from rfl]
      rw [drop_stepB cs 3 23, e3, show 3 + 23 = 26 from rfl]
      rw [List.drop_eq_nil_of_le (by omega), List.append_nil]
    rw [List.drop_zero] at hall
    rw [hall]
    rfl
set_option maxRecDepth 10000 in
theorem ops11_of_trod {A : Option Addr} {len cap : Nat} {d : DataW H} {p : List MemPlace} (h : DataW.Trod enc Tryd.prog w base (fun _ => true) held 22 (.slice A len cap) d p) :
    ∃ us : List Op11, us.length = len ∧ SR w w.heap.size A 26 (us.map op11C) cap ∧ ∀ u ∈ us, op11W w u :=
  haveI : Inhabited Op11 := ⟨(0, 0, [], zeroCe)⟩
  SR.of_trod Tryd.underlying22 (by kernel_rfl) (by decide : 0 < 26) op11C (op11W w) (fun _ h => op11C_len h) (fun _ _ _ hl hx => op11_of_trod hl hx) h
end
def zeroO11 : List Value := [.int .i64 0, .int .i64 0, .string ⟨#[]⟩] ++ ceC zeroCe
theorem zeroO11_length : zeroO11.length = 26 := by rw [zeroO11, List.length_append, zeroCe_length]; rfl
theorem zeroO11_run (w : World) : (zeroValue 40).run Tryd.prog w = .ok (.agg zeroO11.toArray) w := by kernel_rfl
theorem aggO11 : AggT Tryd.prog 40 26 := ⟨fun _ => by kernel_rfl, by kernel_rfl⟩

def longO11 (o : Op11) : Bool := decide (100 < o.2.2.1.length) || (decide (100 < o.2.2.2.1.cl.length) || (decide (100 < o.2.2.2.1.sv.length) || decide (500 < o.2.2.2.1.tk.length)))
def greatO11 (l : List Op11) : Bool := decide (60 < l.length) || l.any longO11
theorem any_take11 {l : List Op11} {k : Nat} (hk : k < l.length) : (l.take (k + 1)).any longO11 = ((l.take k).any longO11 || longO11 l[k]) := by
  rw [List.take_succ_eq_append_getElem hk, List.any_append]
  simp
theorem great_len11 {l : List Op11} (h : greatO11 l = false) : l.length ≤ 60 := by
  unfold greatO11 at h
  rw [Bool.or_eq_false_iff] at h
  have := of_decide_eq_false h.1
  omega
theorem great_ok11 {w : World} {l : List Op11} (h : greatO11 l = false) {o : Op11} (ho : o ∈ l) (hw : op11W w o) : cdOk o.2.2.2.1 ∧ o.2.2.1.length ≤ 100 := by
  unfold greatO11 at h
  rw [Bool.or_eq_false_iff] at h
  have h2 := h.2
  rw [List.any_eq_false] at h2
  have h3 := h2 o ho
  unfold longO11 at h3
  simp at h3
  exact ⟨⟨by omega, by omega, by omega, hw.p⟩, by omega⟩

set_option maxRecDepth 10000 in
set_option maxHeartbeats 2000000 in
theorem cgreat_any (w w0 : World) (A : Option Addr) (l : List Op11) (n cap B : Nat) (hn : l.length = n) (hA : SR w B A 26 (l.map op11C) cap) (hB : B ≤ w.heap.size) (hl : ∀ o ∈ l, op11W w0 o) :
    Calls Tryd.prog 5 #[.slice A n cap] w fun e w' => e = .returned (.bool (greatO11 l)) ∧ w.grownBy w' none := by
  by_cases h0 : 60 < n
  · have t0 : decide ((60 : Int) < (n : Int)) = true := decide_eq_true (by omega)
    have hg : greatO11 l = true := by unfold greatO11; rw [hn, decide_eq_true h0]; rfl
    rw [hg]
    clear h0 hA hB hl hg hn
    go_enter Tryd.func5, Tryd.ntmps5
    go_wp2
    go_ret
    exact ⟨rfl, World.grownBy.refl _ _⟩
  · have t0 : decide ((60 : Int) < (n : Int)) = false := decide_eq_false (by omega)
    have hg : greatO11 l = l.any longO11 := by unfold greatO11; rw [hn, decide_eq_false h0]; rfl
    rw [hg]
    have HN := Lib.hid hn
    have HA := Lib.hid hA
    have HB := Lib.hid hB
    have HL := Lib.hid hl
    have N0 := Lib.hid h0
    clear h0 hA hB hl hg hn
    go_enter Tryd.func5, Tryd.ntmps5
    go_wp2
    clear t0
    go_loopw [10] (fun v wr => ∃ k : Nat, k ≤ n ∧ v = .int .i64 k ∧ (l.take k).any longO11 = false ∧ w.grownBy wr none) (fun v _ => n - (intOf v).toNat)
    case atStart => exact ⟨0, Nat.zero_le _, rfl, rfl, World.grownBy.refl _ _⟩
    case round =>
      obtain ⟨k, hk, rfl, hany, hW⟩ := hrel
      have HW := Lib.hid hW
      have hn0 := N0.out
      by_cases hlt : k < n
      · obtain ⟨o, ho⟩ : ∃ o, o = l[k]'(by rw [HN.out]; exact hlt) := ⟨_, rfl⟩
        obtain ⟨ab, ao, hAe, hab, hcells⟩ := HA.out.elem (k := k) (by rw [List.length_map, HN.out]; exact hlt)
        have HOW := Lib.hid (show op11W w0 o by rw [ho]; exact HL.out _ (List.getElem_mem _))
        have hce : (l.map op11C)[k]'(by rw [List.length_map, HN.out]; exact hlt) = op11C o := by rw [List.getElem_map, ho]
        rw [hce] at hcells
        have HCELL := Lib.hid (show ∀ j v, (op11C o)[j]? = some v → wr.cell? ⟨ab, ao + 26 * k + j, none⟩ = some v from fun j v hj => ((below_of_none HW.out).cell (p := ⟨ab, _, none⟩) (Nat.lt_of_lt_of_le hab HB.out)).trans (hcells j v hj))
        have HNX := Lib.hid (show (l.take (k + 1)).any longO11 = longO11 o by rw [any_take11 (by rw [HN.out]; exact hlt), hany, ho]; rfl)
        have HMEM := Lib.hid (show o ∈ l by rw [ho]; exact List.getElem_mem _)
        subst hAe
        clear hW hce hcells ho hab hany
        have HB1 := Lib.hid (CB.new wr 40 zeroO11)
        obtain ⟨b1, hb1⟩ : ∃ b, b = decide (100 < o.2.2.1.length) := ⟨_, rfl⟩
        obtain ⟨b2, hb2⟩ : ∃ b, b = decide (100 < o.2.2.2.1.cl.length) := ⟨_, rfl⟩
        obtain ⟨b3, hb3⟩ : ∃ b, b = decide (100 < o.2.2.2.1.sv.length) := ⟨_, rfl⟩
        obtain ⟨b4, hb4⟩ : ∃ b, b = decide (500 < o.2.2.2.1.tk.length) := ⟨_, rfl⟩
        have HE := Lib.hid (show longO11 o = (b1 || (b2 || (b3 || b4))) by rw [hb1, hb2, hb3, hb4]; rfl)
        have e1 : decide ((100 : Int) < (o.2.2.1.length : Int)) = b1 := by rw [hb1]; exact decide_eq_decide.2 (by omega)
        have e2 : decide ((100 : Int) < (o.2.2.2.1.cl.length : Int)) = b2 := by rw [hb2]; exact decide_eq_decide.2 (by omega)
        have e3 : decide ((100 : Int) < (o.2.2.2.1.sv.length : Int)) = b3 := by rw [hb3]; exact decide_eq_decide.2 (by omega)
        have e4 : decide ((500 : Int) < (o.2.2.2.1.tk.length : Int)) = b4 := by rw [hb4]; exact decide_eq_decide.2 (by omega)
        have TK0 := Lib.hid True.intro
        clear hb1 hb2 hb3 hb4
        have HTR := Lib.hid (show longO11 o = true → l.any longO11 = true from fun h => List.any_eq_true.2 ⟨o, HMEM.out, h⟩)
        rcases (show b1 = true ∨ (b1 = false ∧ b2 = true) ∨ (b1 = false ∧ b2 = false ∧ b3 = true) ∨ (b1 = false ∧ b2 = false ∧ b3 = false ∧ b4 = true) ∨ (b1 = false ∧ b2 = false ∧ b3 = false ∧ b4 = false) by cases b1 <;> cases b2 <;> cases b3 <;> cases b4 <;> simp) with rfl | ⟨rfl, rfl⟩ | ⟨rfl, rfl, rfl⟩ | ⟨rfl, rfl, rfl, rfl⟩ | ⟨rfl, rfl, rfl, rfl⟩
        · have HT := Lib.hid (HTR.out (by rw [HE.out]; simp))
          go_wp2_with (first
            | (have hx := TK0; refine wpList_loadX (p := op11C o) aggO11 rfl (.tmp 12) rfl (b := ab) (off := ao + 26 * k) HCELL.out (op11C_len HOW.out) (by first | rfl | go_simp) ?_; clear hx TK0; have TK1 := Lib.hid True.intro)
            | (have hx := TK1; refine wpList_allocC zeroO11_run rfl rfl ?_; clear hx TK1; have TK2 := Lib.hid True.intro)
            | (have hx := TK2; refine wpList_storeC (off := 0) (p := op11C o) aggO11.hi rfl (.tmp 4) (.tmp 13) rfl (.agg (op11C o).toArray) rfl (op11C_one o) HB1.out (op11C_len HOW.out) (by rw [zeroO11_length]; omega) (by first | rfl | go_simp) (by first | rfl | go_simp) ?_; clear hx TK2; intro w2 h2 g2; rw [over_all _ _ (Nat.le_of_eq (by rw [zeroO11_length, op11C_len HOW.out]))] at h2; have q0 := h2.at_ (op11C_server o); have q1 := h2.at_ (op11C_cl o); have q2 := h2.at_ (op11C_sv o); have q3 := h2.at_ (op11C_tk o); have W2 := Lib.hid (none_new (grown_trans' HW.out (grown_alloc wr (.cells zeroO11.toArray 40) none)) g2 HW.out.size); clear h2 g2))
          go_ret
          rw [HT.out]
          exact ⟨rfl, W2.out⟩
        · have HT := Lib.hid (HTR.out (by rw [HE.out]; simp))
          go_wp2_with (first
            | (have hx := TK0; refine wpList_loadX (p := op11C o) aggO11 rfl (.tmp 12) rfl (b := ab) (off := ao + 26 * k) HCELL.out (op11C_len HOW.out) (by first | rfl | go_simp) ?_; clear hx TK0; have TK1 := Lib.hid True.intro)
            | (have hx := TK1; refine wpList_allocC zeroO11_run rfl rfl ?_; clear hx TK1; have TK2 := Lib.hid True.intro)
            | (have hx := TK2; refine wpList_storeC (off := 0) (p := op11C o) aggO11.hi rfl (.tmp 4) (.tmp 13) rfl (.agg (op11C o).toArray) rfl (op11C_one o) HB1.out (op11C_len HOW.out) (by rw [zeroO11_length]; omega) (by first | rfl | go_simp) (by first | rfl | go_simp) ?_; clear hx TK2; intro w2 h2 g2; rw [over_all _ _ (Nat.le_of_eq (by rw [zeroO11_length, op11C_len HOW.out]))] at h2; have q0 := h2.at_ (op11C_server o); have q1 := h2.at_ (op11C_cl o); have q2 := h2.at_ (op11C_sv o); have q3 := h2.at_ (op11C_tk o); have W2 := Lib.hid (none_new (grown_trans' HW.out (grown_alloc wr (.cells zeroO11.toArray 40) none)) g2 HW.out.size); clear h2 g2))
          go_ret
          rw [HT.out]
          exact ⟨rfl, W2.out⟩
        · have HT := Lib.hid (HTR.out (by rw [HE.out]; simp))
          go_wp2_with (first
            | (have hx := TK0; refine wpList_loadX (p := op11C o) aggO11 rfl (.tmp 12) rfl (b := ab) (off := ao + 26 * k) HCELL.out (op11C_len HOW.out) (by first | rfl | go_simp) ?_; clear hx TK0; have TK1 := Lib.hid True.intro)
            | (have hx := TK1; refine wpList_allocC zeroO11_run rfl rfl ?_; clear hx TK1; have TK2 := Lib.hid True.intro)
            | (have hx := TK2; refine wpList_storeC (off := 0) (p := op11C o) aggO11.hi rfl (.tmp 4) (.tmp 13) rfl (.agg (op11C o).toArray) rfl (op11C_one o) HB1.out (op11C_len HOW.out) (by rw [zeroO11_length]; omega) (by first | rfl | go_simp) (by first | rfl | go_simp) ?_; clear hx TK2; intro w2 h2 g2; rw [over_all _ _ (Nat.le_of_eq (by rw [zeroO11_length, op11C_len HOW.out]))] at h2; have q0 := h2.at_ (op11C_server o); have q1 := h2.at_ (op11C_cl o); have q2 := h2.at_ (op11C_sv o); have q3 := h2.at_ (op11C_tk o); have W2 := Lib.hid (none_new (grown_trans' HW.out (grown_alloc wr (.cells zeroO11.toArray 40) none)) g2 HW.out.size); clear h2 g2))
          go_ret
          rw [HT.out]
          exact ⟨rfl, W2.out⟩
        · have HT := Lib.hid (HTR.out (by rw [HE.out]; simp))
          go_wp2_with (first
            | (have hx := TK0; refine wpList_loadX (p := op11C o) aggO11 rfl (.tmp 12) rfl (b := ab) (off := ao + 26 * k) HCELL.out (op11C_len HOW.out) (by first | rfl | go_simp) ?_; clear hx TK0; have TK1 := Lib.hid True.intro)
            | (have hx := TK1; refine wpList_allocC zeroO11_run rfl rfl ?_; clear hx TK1; have TK2 := Lib.hid True.intro)
            | (have hx := TK2; refine wpList_storeC (off := 0) (p := op11C o) aggO11.hi rfl (.tmp 4) (.tmp 13) rfl (.agg (op11C o).toArray) rfl (op11C_one o) HB1.out (op11C_len HOW.out) (by rw [zeroO11_length]; omega) (by first | rfl | go_simp) (by first | rfl | go_simp) ?_; clear hx TK2; intro w2 h2 g2; rw [over_all _ _ (Nat.le_of_eq (by rw [zeroO11_length, op11C_len HOW.out]))] at h2; have q0 := h2.at_ (op11C_server o); have q1 := h2.at_ (op11C_cl o); have q2 := h2.at_ (op11C_sv o); have q3 := h2.at_ (op11C_tk o); have W2 := Lib.hid (none_new (grown_trans' HW.out (grown_alloc wr (.cells zeroO11.toArray 40) none)) g2 HW.out.size); clear h2 g2))
          go_ret
          rw [HT.out]
          exact ⟨rfl, W2.out⟩
        · have HF := Lib.hid (show longO11 o = false by rw [HE.out]; rfl)
          go_wp2_with (first
            | (have hx := TK0; refine wpList_loadX (p := op11C o) aggO11 rfl (.tmp 12) rfl (b := ab) (off := ao + 26 * k) HCELL.out (op11C_len HOW.out) (by first | rfl | go_simp) ?_; clear hx TK0; have TK1 := Lib.hid True.intro)
            | (have hx := TK1; refine wpList_allocC zeroO11_run rfl rfl ?_; clear hx TK1; have TK2 := Lib.hid True.intro)
            | (have hx := TK2; refine wpList_storeC (off := 0) (p := op11C o) aggO11.hi rfl (.tmp 4) (.tmp 13) rfl (.agg (op11C o).toArray) rfl (op11C_one o) HB1.out (op11C_len HOW.out) (by rw [zeroO11_length]; omega) (by first | rfl | go_simp) (by first | rfl | go_simp) ?_; clear hx TK2; intro w2 h2 g2; rw [over_all _ _ (Nat.le_of_eq (by rw [zeroO11_length, op11C_len HOW.out]))] at h2; have q0 := h2.at_ (op11C_server o); have q1 := h2.at_ (op11C_cl o); have q2 := h2.at_ (op11C_sv o); have q3 := h2.at_ (op11C_tk o); have W2 := Lib.hid (none_new (grown_trans' HW.out (grown_alloc wr (.cells zeroO11.toArray 40) none)) g2 HW.out.size); clear h2 g2))
          go_roundw
          case rel => exact ⟨k + 1, by omega, by go_num, by rw [HNX.out, HF.out], W2.out⟩
          case measure => simp [intOf]; omega
      · have HE := Lib.hid (show l.any longO11 = false by
          rw [show k = n by omega, ← HN.out, List.take_length] at hany
          exact hany)
        clear hW hany
        go_wp2
        go_ret
        rw [HE.out]
        exact ⟨rfl, HW.out⟩

/-! Same. -/
def qGr (x y : Cd) (f : Field) : Bool := match f.offset with
  | 0 => decide (x.sv = y.sv)
  | 1 => decide (x.ky = y.ky)
  | 17 => decide (x.no = y.no)
  | 18 => decide (x.st = y.st)
  | 19 => decide (x.en = y.en)
  | _ => decide (x.fl = y.fl)
def eqGr (x y : Cd) : Bool := decide (x.sv = y.sv) && (decide (x.ky = y.ky) && (decide (x.no = y.no) && (decide (x.st = y.st) && (decide (x.en = y.en) && decide (x.fl = y.fl)))))
theorem grC_key {x : Cd} (h : cdW x) : ((grC x).drop 1).take 16 = bcells x.ky := by
  show (bcells x.ky ++ [Value.int .u64 (x.no : Int), .int .i64 x.st, .int .i64 x.en, .int .i64 x.fl]).take 16 = _
  exact List.take_left' (by rw [bcells_length, h.lk])
theorem grC_at {x : Cd} (h : cdW x) : (grC x)[17]? = some (.int .u64 (x.no : Int)) ∧ (grC x)[18]? = some (.int .i64 x.st) ∧ (grC x)[19]? = some (.int .i64 x.en) ∧ (grC x)[20]? = some (.int .i64 x.fl) := by
  unfold grC gcells
  simp [bcells_length, h.lk]
set_option maxRecDepth 10000 in
theorem run_eqGr (x y : Cd) (hx : cdW x) (hy : cdW y) (w : World) : (binOp .eql 36 (.agg (grC x).toArray) (.agg (grC y).toArray)).run Tryd.prog w = .ok (.bool (eqGr x y)) w := by
  rw [run_eqlB]
  have hs := run_structE Tryd.underlying36 (by kernel_rfl) 9999 (grC x).toArray (grC y).toArray (qGr x y) (fun f hf => by
    simp only [List.mem_cons, List.not_mem_nil, or_false] at hf
    rcases hf with rfl | rfl | rfl | rfl | rfl | rfl
    · exact ⟨by decide, _, _, run_partXe (by intro w; kernel_rfl) (show (grC x)[0]? = some (.string ⟨x.sv.toArray⟩) from rfl), run_partXe (by intro w; kernel_rfl) (show (grC y)[0]? = some (.string ⟨y.sv.toArray⟩) from rfl), fun w => by rw [run_eqS Tryd.underlying9, ba_beqB]; rfl⟩
    · exact ⟨by decide, _, _, run_partAe (n := 16) aggKB (grC_key hx), run_partAe (n := 16) aggKB (grC_key hy), fun w => by
        have := run_arrB Tryd.underlying33 sz8B Tryd.underlying5 hx.lk hy.lk 9997 w
        rw [this]
        congr 1
        show (x.ky == y.ky) = decide (x.ky = y.ky)
        rw [Bool.eq_iff_iff, beq_iff_eq, decide_eq_true_iff]⟩
    · exact ⟨by decide, _, _, run_partXe (by intro w; kernel_rfl) (grC_at hx).1, run_partXe (by intro w; kernel_rfl) (grC_at hy).1, fun w => by
        rw [run_eqI Tryd.underlying34]
        congr 1
        show ((x.no : Int) == (y.no : Int)) = decide (x.no = y.no)
        rw [Bool.eq_iff_iff, beq_iff_eq, decide_eq_true_iff]
        omega⟩
    · exact ⟨by decide, _, _, run_partXe (by intro w; kernel_rfl) (grC_at hx).2.1, run_partXe (by intro w; kernel_rfl) (grC_at hy).2.1, fun w => by rw [run_eqI Tryd.underlying2]; rfl⟩
    · exact ⟨by decide, _, _, run_partXe (by intro w; kernel_rfl) (grC_at hx).2.2.1, run_partXe (by intro w; kernel_rfl) (grC_at hy).2.2.1, fun w => by rw [run_eqI Tryd.underlying2]; rfl⟩
    · exact ⟨by decide, _, _, run_partXe (by intro w; kernel_rfl) (grC_at hx).2.2.2, run_partXe (by intro w; kernel_rfl) (grC_at hy).2.2.2, fun w => by rw [run_eqI Tryd.underlying3]; rfl⟩) w
  rw [hs]
  show Result.ok (Value.bool (decide (x.sv = y.sv) && (decide (x.ky = y.ky) && (decide (x.no = y.no) && (decide (x.st = y.st) && (decide (x.en = y.en) && (decide (x.fl = y.fl) && true))))))) w = _
  rw [Bool.and_true]
  rfl
end Go.Proofs.YtfpcabfpnekejaaDoor
