/- The walk of the document's Feed. -/
import Derived.Test.YtbkaabimafipoaaPtd
namespace Go.Proofs.Ytbkaabimafipoaa
open Go.ChangeShapes Go.WideShapes Go.RowKit

theorem sz8 : (Try.prog.info? 5).map (·.size) = some 1 := by kernel_rfl
theorem szStr : (Try.prog.info? 9).map (·.size) = some 1 := by kernel_rfl
theorem sb_app (a b : List UInt8) : sb (a ++ b) = sb a ++ sb b := by
  apply ByteArray.ext
  simp [sb]
theorem sb_cut (l : List UInt8) (k : Nat) (h : l.length = k + 1) : (sb l).extract 0 k = sb l.dropLast := by
  apply ByteArray.ext
  apply Array.toList_inj.1
  rw [ByteArray.data_extract, Array.toList_extract, List.dropLast_eq_take, h]
  simp [sb, List.extract]
theorem wp_litB {P : Program} {w : World} {o : Oper} {d : Option Tmp} {a : Act} {K : Act → World → Prop} {Q : Exit → Act → World → Prop} {e : TypeId} (x : Int) (_hd : o.dst = d)
    (hrun : o.wp P a w (fun a' w' => a' = a.put d (.slice (some ⟨w.heap.size, 0, none⟩) 1 1) ∧ w' = w.alloc (.cells #[.int .u8 x] e)) Q)
    (hk : ∀ w', w' = w.alloc (.cells #[.int .u8 x] e) → K (a.put d (.slice (some ⟨w.heap.size, 0, none⟩) 1 1)) w') : o.wp P a w K Q := by
  refine Oper.wp_mono (fun a' w' h => ?_) hrun
  obtain ⟨rfl, rfl⟩ := h
  exact hk _ rfl
theorem wpList_convR {P : Program} {w : World} {ops : Array Oper} {rest : List Oper} {o : Oper} {a : Act} {Q : Exit → Act → World → Prop} {t1 t2 : TypeId} {u v : Value} (hgd : o.guard = none) (x : Operand) (ho : o.op = .convert t1 t2 x) (hx : a.eval x = u) (h : (convert t1 t2 u).run P w = .ok v w)
    (hk : wpList P ops Q rest (a.put o.dst v) w) : wpList P ops Q (o :: rest) a w := by
  refine wpList_plain hgd fun K hK => ?_
  unfold Oper.wp execOp
  simp only [ho, hx, Sem.run_bind, Sem.run_pure, h, Result.andThen_ok]
  exact hK _ _ hk
theorem conv_one (W : World) (c : UInt8) (x : Int) (hx : x = (c.toNat : Int)) : (convert 30 9 (.slice (some ⟨W.heap.size, 0, none⟩) 1 1)).run Try.prog (W.alloc (.cells #[.int .u8 x] 5)) = .ok (.string (sb [c])) (W.alloc (.cells #[.int .u8 x] 5)) :=
  run_strB byteT strTy (rb1 W 5 c x hx)
theorem grown_row {a b c : World} {r r' : Option Nat} (h : a.grownBy b r) (k : b.grownBy c r') (hr : ∀ g, r' = some g → a.heap.size ≤ g) : a.grownBy c r := by
  refine ⟨k.os.trans h.os, k.tape.trans h.tape, k.output.trans h.output, Nat.le_trans h.size k.size, fun i hi hne => (k.block i (Nat.lt_of_lt_of_le hi h.size) (fun e => ?_)).trans (h.block i hi hne)⟩
  have := hr i e.symm
  omega
/-- The document's Pty at m: the byte ahead is y. -/
def RP (w : World) (m : Nat) (s : Tm) (y : UInt8) : Prop := CB w m 29 [.string (sb s.line), .int .u8 (y.toNat : Int), .int .i64 (s.stops : Int)] ∧ s.ret = decide (y.toNat = 13)

set_option maxRecDepth 20000 in
set_option maxHeartbeats 20000000 in
theorem rfeed_any (w : World) (m : Nat) (s : Tm) (y : UInt8) (h : RP w m s y) (A : Option Addr) (l : List UInt8) (n cap : Nat) (hn : l.length = n) (hr : RB w w.heap.size A l cap) (ha : ∀ a, A = some a → 0 < l.length → a.block ≠ m)
    (hnl : n ≤ 3000) (hl : s.line.length ≤ 80) (hst : s.stops ≤ 1000000000) :
    Calls Try.prog 11 #[.pointer (some ⟨m, 0, none⟩), .slice A n cap] w fun e w' => ∃ lv, e = .returned (.tuple #[.string (sb (fdF s l).2.1), lv]) ∧ (∃ y', RP w' m (fdF s l).1 y') ∧
      OwnS w' w.heap.size 9 lv ((fdF s l).2.2.map sb) ∧ w.grownBy w' (some m) := by
  have H := Lib.hid h
  have HR := Lib.hid hr
  have HA := Lib.hid ha
  have HN := Lib.hid hn
  have HL := Lib.hid hl
  have HST := Lib.hid hst
  have HM := Lib.hid h.1.lt
  have hni : (n : Int) ≤ 3000 := by omega
  clear h hr ha hn hl hst
  go_enter Try.func11, Try.ntmps11
  go_wp2
  go_loopw [6, 7, 8] (fun s6 s7 s8 wr => ∃ (k : Nat) (lv : Value) (y' : UInt8), s6 = .string (sb (fdF s (l.take k)).2.1) ∧ lv = s7 ∧ s8 = .int .i64 k ∧ k ≤ n ∧ RP wr m (fdF s (l.take k)).1 y' ∧ OwnS wr w.heap.size 9 lv ((fdF s (l.take k)).2.2.map sb) ∧ w.grownBy wr (some m)) (fun _ _ s8 _ => n - (intOf s8).toNat)
  case atStart => exact ⟨0, _, y, rfl, rfl, rfl, Nat.zero_le _, ⟨H.out.1.alloc _, H.out.2⟩, ⟨by simp [fdF], .inr ⟨w.heap.size, 0, #[], rfl, Nat.le_refl _, heap_alloc_new w _, Nat.le_refl _, by simp [maxLen], rfl, rfl⟩⟩, grown_alloc _ _ _⟩
  case round =>
    obtain ⟨k, lv, y', rfl, e7, rfl, hk, hx, ho, hg⟩ := hrel
    subst e7
    by_cases hkn : k < n
    · have hki : (k : Int) < (n : Int) := by omega
      have hkl : k < l.length := by rw [HN.out]; exact hkn
      obtain ⟨b, off, rfl, hbb, hc⟩ := HR.out.open_ (by omega)
      obtain ⟨c, hcv⟩ : ∃ c, c = l[k] := ⟨_, rfl⟩
      have hck := hc k hkl
      rw [← hcv] at hck
      have hap := HA.out _ rfl (by omega)
      have k0 : wr.cell? ⟨b, off + k, none⟩ = some (.int .u8 (c.toNat : Int)) :=
        (World.cell?_of_block (hg.block b hbb (fun e => by injection e with e; exact hap e))).trans hck
      have kl : wr.cell? ⟨m, 1, none⟩ = some (.int .u8 (y'.toNat : Int)) := hx.1.at_ rfl
      have HT := Lib.hid (fdF_take s l k hkl)
      rw [← hcv] at HT
      have HFL := Lib.hid (show (fdF s (l.take k)).1.line.length ≤ 80 from fdF_line HL.out _)
      have HLS := Lib.hid (show (fdF s (l.take k)).2.2.length ≤ 3000 by have h1 := fdF_lines s (l.take k); rw [List.length_take] at h1; omega)
      have HFS := Lib.hid (show (fdF s (l.take k)).1.stops ≤ 2000000000 by have h1 := fdF_stops s (l.take k); rw [List.length_take] at h1; have := HST.out; omega)
      have HSH0 := Lib.hid (show (fdF s (l.take k)).2.1.length ≤ 720000 by have h1 := fdF_shown HL.out (l.take k); rw [List.length_take] at h1; omega)
      obtain ⟨F, hF⟩ : ∃ F, F = fdF s (l.take k) := ⟨_, rfl⟩
      rw [← hF] at HT HFL HLS HFS HSH0 hx ho ⊢
      clear hF
      obtain ⟨⟨ll, st, rr⟩, sh, ls⟩ := F
      obtain ⟨q, hq⟩ : ∃ q, ll.length = q := ⟨_, rfl⟩
      have HQ := Lib.hid hq
      have hqs : (sb ll).size = q := hq
      clear hq
      have HX := Lib.hid hx
      have HO := Lib.hid ho
      have HG := Lib.hid hg
      have hcn := c.toNat_lt
      have HSH := Lib.hid (show sh.length ≤ 720000 from HSH0.out)
      have hsz : (sb sh).size = sh.length := rfl
      have z1 : ¬ 9223372036854775807 < (sb sh).size + 1 := by have := HSH.out; omega
      have z2 : ¬ 9223372036854775807 < (sb sh).size + 2 := by have := HSH.out; omega
      have z3 : ¬ 9223372036854775807 < (sb sh).size + 3 := by have := HSH.out; omega
      have z4 : ¬ 9223372036854775807 < (sb sh).size + 4 := by have := HSH.out; omega
      clear hsz
      obtain ⟨x, hxx⟩ : ∃ x, (c.toNat : Int) = x := ⟨_, rfl⟩
      obtain ⟨yy, hyy⟩ : ∃ yy, (y'.toNat : Int) = yy := ⟨_, rfl⟩
      rw [hxx] at k0
      rw [hyy] at kl
      have HXX := Lib.hid hxx
      have HYY := Lib.hid hyy
      clear hx hg hc hck hap hcv hkl hbb hxx hyy ho
      go_wp2
      go_quiet (fail)
      obtain ⟨w0, hw0⟩ : ∃ z, wr.drewN nq = z := ⟨_, rfl⟩
      have C0 := Lib.hid (show CB w0 m 29 [.string (sb ll), .int .u8 yy, .int .i64 (st : Int)] by rw [← hw0, ← HYY.out]; exact HX.out.1)
      have G0 := Lib.hid (show w.grownBy w0 (some m) by rw [← hw0]; exact ⟨HG.out.os, HG.out.tape, HG.out.output, HG.out.size, HG.out.block⟩)
      have O0 := Lib.hid (show OwnS w0 w.heap.size 9 lv (ls.map sb) by rw [← hw0]; exact HO.out)
      have HRR := Lib.hid (show rr = decide (y'.toNat = 13) from HX.out.2)
      rw [hw0]
      clear hw0 HX HO HG k0 kl
      by_cases h13 : c.toNat = 13
      · obtain rfl : x = 13 := by have := HXX.out; omega
        go_wp2_with (first
          | (refine wpList_storeC (off := 1) (p := [.int .u8 13]) sz8 rfl (.tmp 31) (.tmp 29) rfl (.int .u8 13) rfl (fun u hu => by rw [List.mem_singleton.1 hu]; rfl) C0.out rfl (by simp) (by first | rfl | go_simp) (by first | rfl | go_simp) ?_; intro w1 h1 g1; have C1 := Lib.hid (show CB w1 m 29 [.string (sb ll), .int .u8 13, .int .i64 (st : Int)] from h1); have G1 := Lib.hid (grown_trans' G0.out g1); have O1 := Lib.hid (OwnS.mod O0.out (Mod.of_grown g1) (fun g hg e => by injection e with e; subst e; exact O0.out.ne_cells C0.out (by decide) hg)); have ml : w1.cell? ⟨m, 0, none⟩ = some (.string (sb ll)) := C1.out.at_ rfl; have ms : w1.cell? ⟨m, 2, none⟩ = some (.int .i64 (st : Int)) := C1.out.at_ rfl; clear h1 g1)
          | (at_builtin; refine wpList_appS strT rfl (.tmp 47) (.tmp 52) rfl (p := sb ll) (c := 1) (ad := ⟨w1.heap.size, 0, none⟩) (OwnS.mod O1.out (Mod.made (S := fun _ => False) (grown_alloc _ _ none)) (fun _ _ h => h)) (cell_heap (heap_alloc_new _ _) 0) rfl rfl (by rw [List.length_map]; have := HLS.out; omega) (by rw [World.size_alloc]; have := G1.out.size; omega) ?_; intro lv2 w2 o2 g2 a2; have O2 := Lib.hid o2; have C2 := Lib.hid ((C1.out.alloc _).mod (Mod.of_grown g2) (fun e => O1.out.ne_cells C1.out (by decide) e.symm)); have G2 := Lib.hid (grown_row (grown_trans' G1.out (grown_alloc _ _ _)) g2 (fun g hg => (World.ownsRow.lt O1.out g hg).1)); clear o2 g2 a2)
          | (refine wpList_storeC (off := 0) (p := [.string ⟨#[]⟩]) szStr rfl (.tmp 56) (.const (.string ⟨#[]⟩)) rfl (.string ⟨#[]⟩) rfl (fun u hu => by rw [List.mem_singleton.1 hu]; rfl) C2.out rfl (by simp) (by first | rfl | go_simp) (by first | rfl | go_simp) ?_; intro w3 h3 g3; have C3 := Lib.hid (show CB w3 m 29 [.string ⟨#[]⟩, .int .u8 13, .int .i64 (st : Int)] from h3); have G3 := Lib.hid (grown_trans' G2.out g3); have O3 := Lib.hid (OwnS.mod O2.out (Mod.of_grown g3) (fun g hg e => by injection e with e; subst e; exact O2.out.ne_cells C2.out (by decide) hg)); clear h3 g3))
        go_roundw
        case rel =>
          have ht := tk13 (s := ⟨ll, st, rr⟩) h13
          refine ⟨k + 1, lv2, c, ?_, rfl, by go_num, by omega, ?_, ?_, G3.out⟩
          · rw [HT.out, ht]; simp [sb_app]; rfl
          · rw [HT.out, ht]; exact ⟨by rw [show (c.toNat : Int) = 13 from HXX.out]; exact C3.out, by have := HXX.out; simp; omega⟩
          · rw [HT.out, ht]; have := O3.out; simpa using this
        case measure => simp [intOf]; omega
      by_cases h10 : c.toNat = 10
      · obtain rfl : x = 10 := by have := HXX.out; omega
        by_cases hyy : yy = 13
        · subst hyy
          have hrr : rr = true := by rw [HRR.out, decide_eq_true_iff]; have := HYY.out; omega
          go_wp2_with (refine wpList_storeC (off := 1) (p := [.int .u8 10]) sz8 rfl (.tmp 31) (.tmp 29) rfl (.int .u8 10) rfl (fun u hu => by rw [List.mem_singleton.1 hu]; rfl) C0.out rfl (by simp) (by first | rfl | go_simp) (by first | rfl | go_simp) ?_; intro w1 h1 g1; have C1 := Lib.hid (show CB w1 m 29 [.string (sb ll), .int .u8 10, .int .i64 (st : Int)] from h1); have G1 := Lib.hid (grown_trans' G0.out g1); have O1 := Lib.hid (OwnS.mod O0.out (Mod.of_grown g1) (fun g hg e => by injection e with e; subst e; exact O0.out.ne_cells C0.out (by decide) hg)); have ml : w1.cell? ⟨m, 0, none⟩ = some (.string (sb ll)) := C1.out.at_ rfl; have ms : w1.cell? ⟨m, 2, none⟩ = some (.int .i64 (st : Int)) := C1.out.at_ rfl; clear h1 g1)
          go_roundw
          case rel =>
            have ht := tk10r (s := ⟨ll, st, rr⟩) h10 hrr
            refine ⟨k + 1, lv, c, ?_, rfl, by go_num, by omega, ?_, ?_, G1.out⟩
            · rw [HT.out, ht]; simp
            · rw [HT.out, ht]; exact ⟨by rw [show (c.toNat : Int) = 10 from HXX.out]; exact C1.out, by have := HXX.out; simp; omega⟩
            · rw [HT.out, ht]; have := O1.out; simpa using this
          case measure => simp [intOf]; omega
        · have e13 : (yy == 13) = false := by rw [beq_eq_false_iff_ne]; exact hyy
          have hrr : rr = false := by rw [HRR.out, decide_eq_false_iff_not]; have := HYY.out; omega
          clear hyy
          go_wp2_with (first
            | (refine wpList_storeC (off := 1) (p := [.int .u8 10]) sz8 rfl (.tmp 31) (.tmp 29) rfl (.int .u8 10) rfl (fun u hu => by rw [List.mem_singleton.1 hu]; rfl) C0.out rfl (by simp) (by first | rfl | go_simp) (by first | rfl | go_simp) ?_; intro w1 h1 g1; have C1 := Lib.hid (show CB w1 m 29 [.string (sb ll), .int .u8 10, .int .i64 (st : Int)] from h1); have G1 := Lib.hid (grown_trans' G0.out g1); have O1 := Lib.hid (OwnS.mod O0.out (Mod.of_grown g1) (fun g hg e => by injection e with e; subst e; exact O0.out.ne_cells C0.out (by decide) hg)); have ml : w1.cell? ⟨m, 0, none⟩ = some (.string (sb ll)) := C1.out.at_ rfl; have ms : w1.cell? ⟨m, 2, none⟩ = some (.int .i64 (st : Int)) := C1.out.at_ rfl; clear h1 g1)
            | (at_builtin; refine wpList_appS strT rfl (.tmp 47) (.tmp 52) rfl (p := sb ll) (c := 1) (ad := ⟨w1.heap.size, 0, none⟩) (OwnS.mod O1.out (Mod.made (S := fun _ => False) (grown_alloc _ _ none)) (fun _ _ h => h)) (cell_heap (heap_alloc_new _ _) 0) rfl rfl (by rw [List.length_map]; have := HLS.out; omega) (by rw [World.size_alloc]; have := G1.out.size; omega) ?_; intro lv2 w2 o2 g2 a2; have O2 := Lib.hid o2; have C2 := Lib.hid ((C1.out.alloc _).mod (Mod.of_grown g2) (fun e => O1.out.ne_cells C1.out (by decide) e.symm)); have G2 := Lib.hid (grown_row (grown_trans' G1.out (grown_alloc _ _ _)) g2 (fun g hg => (World.ownsRow.lt O1.out g hg).1)); clear o2 g2 a2)
            | (refine wpList_storeC (off := 0) (p := [.string ⟨#[]⟩]) szStr rfl (.tmp 56) (.const (.string ⟨#[]⟩)) rfl (.string ⟨#[]⟩) rfl (fun u hu => by rw [List.mem_singleton.1 hu]; rfl) C2.out rfl (by simp) (by first | rfl | go_simp) (by first | rfl | go_simp) ?_; intro w3 h3 g3; have C3 := Lib.hid (show CB w3 m 29 [.string ⟨#[]⟩, .int .u8 10, .int .i64 (st : Int)] from h3); have G3 := Lib.hid (grown_trans' G2.out g3); have O3 := Lib.hid (OwnS.mod O2.out (Mod.of_grown g3) (fun g hg e => by injection e with e; subst e; exact O2.out.ne_cells C2.out (by decide) hg)); clear h3 g3))
          go_roundw
          case rel =>
            have ht := tk10 (s := ⟨ll, st, rr⟩) h10 hrr
            refine ⟨k + 1, lv2, c, ?_, rfl, by go_num, by omega, ?_, ?_, G3.out⟩
            · rw [HT.out, ht]; simp [sb_app]; rfl
            · rw [HT.out, ht]; exact ⟨by rw [show (c.toNat : Int) = 10 from HXX.out]; exact C3.out, by have := HXX.out; simp; omega⟩
            · rw [HT.out, ht]; have := O3.out; simpa using this
          case measure => simp [intOf]; omega
      by_cases h8 : c.toNat = 8
      · obtain rfl : x = 8 := by have := HXX.out; omega
        by_cases hq0 : 0 < q
        · obtain ⟨q1, hq1⟩ : ∃ q1, q = q1 + 1 := ⟨q - 1, by omega⟩
          have HQ1 := Lib.hid (show ll.length = q1 + 1 by rw [HQ.out]; exact hq1)
          have hwr : IntKind.i64.wrap ((q : Int) - 1) = (q1 : Int) := by have := HFL.out; have := HQ.out; simp [IntKind.wrap, IntKind.bits, IntKind.signed]; omega
          have hqi : (0 : Int) < (q : Int) := by omega
          have hq1q : q1 ≤ q := by omega
          have hq1i : (q1 : Int) ≤ (q : Int) := by omega
          have hcut : (sb ll).extract 0 q1 = sb ll.dropLast := sb_cut ll q1 HQ1.out
          clear hq1
          go_wp2_with (first
            | (refine wpList_storeC (off := 1) (p := [.int .u8 8]) sz8 rfl (.tmp 31) (.tmp 29) rfl (.int .u8 8) rfl (fun u hu => by rw [List.mem_singleton.1 hu]; rfl) C0.out rfl (by simp) (by first | rfl | go_simp) (by first | rfl | go_simp) ?_; intro w1 h1 g1; have C1 := Lib.hid (show CB w1 m 29 [.string (sb ll), .int .u8 8, .int .i64 (st : Int)] from h1); have G1 := Lib.hid (grown_trans' G0.out g1); have O1 := Lib.hid (OwnS.mod O0.out (Mod.of_grown g1) (fun g hg e => by injection e with e; subst e; exact O0.out.ne_cells C0.out (by decide) hg)); have ml : w1.cell? ⟨m, 0, none⟩ = some (.string (sb ll)) := C1.out.at_ rfl; have ms : w1.cell? ⟨m, 2, none⟩ = some (.int .i64 (st : Int)) := C1.out.at_ rfl; clear h1 g1)
            | (refine wpList_storeC (off := 0) (p := [.string (sb ll.dropLast)]) szStr rfl (.tmp 78) (.tmp 76) rfl (.string (sb ll.dropLast)) rfl (fun u hu => by rw [List.mem_singleton.1 hu]; rfl) C1.out rfl (by simp) (by first | rfl | go_simp) (by first | rfl | go_simp) ?_; intro w3 h3 g3; have C3 := Lib.hid (show CB w3 m 29 [.string (sb ll.dropLast), .int .u8 8, .int .i64 (st : Int)] from h3); have G3 := Lib.hid (grown_trans' G1.out g3); have O3 := Lib.hid (OwnS.mod O1.out (Mod.of_grown g3) (fun g hg e => by injection e with e; subst e; exact O1.out.ne_cells C1.out (by decide) hg)); clear h3 g3))
          go_roundw
          case rel =>
            have ht := tk8 (s := ⟨ll, st, rr⟩) (.inl h8)
            refine ⟨k + 1, lv, c, ?_, rfl, by go_num, by omega, ?_, ?_, G3.out⟩
            · rw [HT.out, ht]; rw [show min 1 (Tm.line ⟨ll, st, rr⟩).length = 1 by show min 1 ll.length = 1; rw [HQ1.out]; omega, sb_app]; rfl
            · rw [HT.out, ht]; exact ⟨by rw [show (c.toNat : Int) = 8 from HXX.out]; exact C3.out, by have := HXX.out; simp; omega⟩
            · rw [HT.out, ht]; have := O3.out; simpa using this
          case measure => simp [intOf]; omega
        · obtain rfl : q = 0 := by omega
          have hln : ll = [] := List.eq_nil_of_length_eq_zero HQ.out
          have HLN := Lib.hid hln
          clear hln
          go_wp2_with (refine wpList_storeC (off := 1) (p := [.int .u8 8]) sz8 rfl (.tmp 31) (.tmp 29) rfl (.int .u8 8) rfl (fun u hu => by rw [List.mem_singleton.1 hu]; rfl) C0.out rfl (by simp) (by first | rfl | go_simp) (by first | rfl | go_simp) ?_; intro w1 h1 g1; have C1 := Lib.hid (show CB w1 m 29 [.string (sb ll), .int .u8 8, .int .i64 (st : Int)] from h1); have G1 := Lib.hid (grown_trans' G0.out g1); have O1 := Lib.hid (OwnS.mod O0.out (Mod.of_grown g1) (fun g hg e => by injection e with e; subst e; exact O0.out.ne_cells C0.out (by decide) hg)); have ml : w1.cell? ⟨m, 0, none⟩ = some (.string (sb ll)) := C1.out.at_ rfl; have ms : w1.cell? ⟨m, 2, none⟩ = some (.int .i64 (st : Int)) := C1.out.at_ rfl; clear h1 g1)
          go_roundw
          case rel =>
            have ht := tk8 (s := ⟨ll, st, rr⟩) (.inl h8)
            refine ⟨k + 1, lv, c, ?_, rfl, by go_num, by omega, ?_, ?_, G1.out⟩
            · rw [HT.out, ht]; rw [show min 1 (Tm.line ⟨ll, st, rr⟩).length = 0 by show min 1 ll.length = 0; rw [HLN.out]; rfl]; simp [rubsN]
            · rw [HT.out, ht]; rw [show (Tm.line ⟨ll, st, rr⟩).dropLast = ll by show ll.dropLast = ll; rw [HLN.out]; rfl]; exact ⟨by rw [show (c.toNat : Int) = 8 from HXX.out]; exact C1.out, by have := HXX.out; simp; omega⟩
            · rw [HT.out, ht]; have := O1.out; simpa using this
          case measure => simp [intOf]; omega
      by_cases h127 : c.toNat = 127
      · obtain rfl : x = 127 := by have := HXX.out; omega
        by_cases hq0 : 0 < q
        · obtain ⟨q1, hq1⟩ : ∃ q1, q = q1 + 1 := ⟨q - 1, by omega⟩
          have HQ1 := Lib.hid (show ll.length = q1 + 1 by rw [HQ.out]; exact hq1)
          have hwr : IntKind.i64.wrap ((q : Int) - 1) = (q1 : Int) := by have := HFL.out; have := HQ.out; simp [IntKind.wrap, IntKind.bits, IntKind.signed]; omega
          have hqi : (0 : Int) < (q : Int) := by omega
          have hq1q : q1 ≤ q := by omega
          have hq1i : (q1 : Int) ≤ (q : Int) := by omega
          have hcut : (sb ll).extract 0 q1 = sb ll.dropLast := sb_cut ll q1 HQ1.out
          clear hq1
          go_wp2_with (first
            | (refine wpList_storeC (off := 1) (p := [.int .u8 127]) sz8 rfl (.tmp 31) (.tmp 29) rfl (.int .u8 127) rfl (fun u hu => by rw [List.mem_singleton.1 hu]; rfl) C0.out rfl (by simp) (by first | rfl | go_simp) (by first | rfl | go_simp) ?_; intro w1 h1 g1; have C1 := Lib.hid (show CB w1 m 29 [.string (sb ll), .int .u8 127, .int .i64 (st : Int)] from h1); have G1 := Lib.hid (grown_trans' G0.out g1); have O1 := Lib.hid (OwnS.mod O0.out (Mod.of_grown g1) (fun g hg e => by injection e with e; subst e; exact O0.out.ne_cells C0.out (by decide) hg)); have ml : w1.cell? ⟨m, 0, none⟩ = some (.string (sb ll)) := C1.out.at_ rfl; have ms : w1.cell? ⟨m, 2, none⟩ = some (.int .i64 (st : Int)) := C1.out.at_ rfl; clear h1 g1)
            | (refine wpList_storeC (off := 0) (p := [.string (sb ll.dropLast)]) szStr rfl (.tmp 78) (.tmp 76) rfl (.string (sb ll.dropLast)) rfl (fun u hu => by rw [List.mem_singleton.1 hu]; rfl) C1.out rfl (by simp) (by first | rfl | go_simp) (by first | rfl | go_simp) ?_; intro w3 h3 g3; have C3 := Lib.hid (show CB w3 m 29 [.string (sb ll.dropLast), .int .u8 127, .int .i64 (st : Int)] from h3); have G3 := Lib.hid (grown_trans' G1.out g3); have O3 := Lib.hid (OwnS.mod O1.out (Mod.of_grown g3) (fun g hg e => by injection e with e; subst e; exact O1.out.ne_cells C1.out (by decide) hg)); clear h3 g3))
          go_roundw
          case rel =>
            have ht := tk8 (s := ⟨ll, st, rr⟩) (.inr h127)
            refine ⟨k + 1, lv, c, ?_, rfl, by go_num, by omega, ?_, ?_, G3.out⟩
            · rw [HT.out, ht]; rw [show min 1 (Tm.line ⟨ll, st, rr⟩).length = 1 by show min 1 ll.length = 1; rw [HQ1.out]; omega, sb_app]; rfl
            · rw [HT.out, ht]; exact ⟨by rw [show (c.toNat : Int) = 127 from HXX.out]; exact C3.out, by have := HXX.out; simp; omega⟩
            · rw [HT.out, ht]; have := O3.out; simpa using this
          case measure => simp [intOf]; omega
        · obtain rfl : q = 0 := by omega
          have hln : ll = [] := List.eq_nil_of_length_eq_zero HQ.out
          have HLN := Lib.hid hln
          clear hln
          go_wp2_with (refine wpList_storeC (off := 1) (p := [.int .u8 127]) sz8 rfl (.tmp 31) (.tmp 29) rfl (.int .u8 127) rfl (fun u hu => by rw [List.mem_singleton.1 hu]; rfl) C0.out rfl (by simp) (by first | rfl | go_simp) (by first | rfl | go_simp) ?_; intro w1 h1 g1; have C1 := Lib.hid (show CB w1 m 29 [.string (sb ll), .int .u8 127, .int .i64 (st : Int)] from h1); have G1 := Lib.hid (grown_trans' G0.out g1); have O1 := Lib.hid (OwnS.mod O0.out (Mod.of_grown g1) (fun g hg e => by injection e with e; subst e; exact O0.out.ne_cells C0.out (by decide) hg)); have ml : w1.cell? ⟨m, 0, none⟩ = some (.string (sb ll)) := C1.out.at_ rfl; have ms : w1.cell? ⟨m, 2, none⟩ = some (.int .i64 (st : Int)) := C1.out.at_ rfl; clear h1 g1)
          go_roundw
          case rel =>
            have ht := tk8 (s := ⟨ll, st, rr⟩) (.inr h127)
            refine ⟨k + 1, lv, c, ?_, rfl, by go_num, by omega, ?_, ?_, G1.out⟩
            · rw [HT.out, ht]; rw [show min 1 (Tm.line ⟨ll, st, rr⟩).length = 0 by show min 1 ll.length = 0; rw [HLN.out]; rfl]; simp [rubsN]
            · rw [HT.out, ht]; rw [show (Tm.line ⟨ll, st, rr⟩).dropLast = ll by show ll.dropLast = ll; rw [HLN.out]; rfl]; exact ⟨by rw [show (c.toNat : Int) = 127 from HXX.out]; exact C1.out, by have := HXX.out; simp; omega⟩
            · rw [HT.out, ht]; have := O1.out; simpa using this
          case measure => simp [intOf]; omega
      by_cases h21 : c.toNat = 21
      · obtain rfl : x = 21 := by have := HXX.out; omega
        go_wp2_with (refine wpList_storeC (off := 1) (p := [.int .u8 21]) sz8 rfl (.tmp 31) (.tmp 29) rfl (.int .u8 21) rfl (fun u hu => by rw [List.mem_singleton.1 hu]; rfl) C0.out rfl (by simp) (by first | rfl | go_simp) (by first | rfl | go_simp) ?_; intro w1 h1 g1; have C1 := Lib.hid (show CB w1 m 29 [.string (sb ll), .int .u8 21, .int .i64 (st : Int)] from h1); have G1 := Lib.hid (grown_trans' G0.out g1); have O1 := Lib.hid (OwnS.mod O0.out (Mod.of_grown g1) (fun g hg e => by injection e with e; subst e; exact O0.out.ne_cells C0.out (by decide) hg)); have ml : w1.cell? ⟨m, 0, none⟩ = some (.string (sb ll)) := C1.out.at_ rfl; have ms : w1.cell? ⟨m, 2, none⟩ = some (.int .i64 (st : Int)) := C1.out.at_ rfl; clear h1 g1)
        go_loopw [6, 12] (fun s6 s12 wr => ∃ j : Nat, s6 = .string (sb (sh ++ rubsN j)) ∧ s12 = .int .i64 j ∧ j ≤ q ∧ wr = w1) (fun _ s12 _ => q - (intOf s12).toNat)
        case atStart => exact ⟨0, by simp [rubsN], rfl, Nat.zero_le _, rfl⟩
        case round =>
          obtain ⟨j, rfl, rfl, hj, rfl⟩ := hrel
          by_cases hjq : j < q
          · have hji : (j : Int) < (q : Int) := by omega
            have hjw : IntKind.i64.wrap ((j : Int) + 1) = ((j + 1 : Nat) : Int) := by have := HFL.out; have := HQ.out; simp [IntKind.wrap, IntKind.bits, IntKind.signed]; omega
            have hzz : ¬ 9223372036854775807 < (sb (sh ++ rubsN j)).size + 3 := by have e : (sb (sh ++ rubsN j)).size = (sh ++ rubsN j).length := rfl; rw [e, List.length_append, rubsN_length]; have := HSH.out; have := HFL.out; have := HQ.out; omega
            obtain ⟨X, hX⟩ : ∃ X, X = sh ++ rubsN j := ⟨_, rfl⟩
            rw [← hX] at hzz ⊢
            have HXJ := Lib.hid hX
            clear hX
            go_wp2
            go_roundw
            case rel => exact ⟨j + 1, by rw [rubsN_succ, ← List.append_assoc, ← HXJ.out, sb_app]; rfl, by first | rfl | go_num, by omega, by trivial⟩
            case measure => simp [intOf]; omega
          · obtain rfl : j = q := by omega
            have hji : ¬ (j : Int) < (j : Int) := by omega
            obtain ⟨X, hX⟩ : ∃ X, X = sh ++ rubsN j := ⟨_, rfl⟩
            rw [← hX]
            have HXJ := Lib.hid hX
            clear hX
            go_wp2_with (refine wpList_storeC (off := 0) (p := [.string ⟨#[]⟩]) szStr rfl (.tmp 92) (.const (.string ⟨#[]⟩)) rfl (.string ⟨#[]⟩) rfl (fun u hu => by rw [List.mem_singleton.1 hu]; rfl) C1.out rfl (by simp) (by first | rfl | go_simp) (by first | rfl | go_simp) ?_; intro w3 h3 g3; have C3 := Lib.hid (show CB w3 m 29 [.string ⟨#[]⟩, .int .u8 21, .int .i64 (st : Int)] from h3); have G3 := Lib.hid (grown_trans' G1.out g3); have O3 := Lib.hid (OwnS.mod O1.out (Mod.of_grown g3) (fun g hg e => by injection e with e; subst e; exact O1.out.ne_cells C1.out (by decide) hg)); clear h3 g3)
            go_roundw
            case rel =>
              have ht := tk21 (s := ⟨ll, st, rr⟩) h21
              refine ⟨k + 1, lv, c, ?_, rfl, by go_num, by omega, ?_, ?_, G3.out⟩
              · rw [HT.out, ht]; rw [show (Tm.line ⟨ll, st, rr⟩).length = j from HQ.out, HXJ.out]
              · rw [HT.out, ht]; exact ⟨by rw [show (c.toNat : Int) = 21 from HXX.out]; exact C3.out, by have := HXX.out; simp; omega⟩
              · rw [HT.out, ht]; have := O3.out; simpa using this
            case measure => simp [intOf]; omega
      by_cases h3 : c.toNat = 3
      · obtain rfl : x = 3 := by have := HXX.out; omega
        have hws : IntKind.i64.wrap ((st : Int) + 1) = (st : Int) + 1 := by have := HFS.out; simp [IntKind.wrap, IntKind.bits, IntKind.signed]; omega
        go_wp2_with (first
          | (refine wpList_storeC (off := 1) (p := [.int .u8 3]) sz8 rfl (.tmp 31) (.tmp 29) rfl (.int .u8 3) rfl (fun u hu => by rw [List.mem_singleton.1 hu]; rfl) C0.out rfl (by simp) (by first | rfl | go_simp) (by first | rfl | go_simp) ?_; intro w1 h1 g1; have C1 := Lib.hid (show CB w1 m 29 [.string (sb ll), .int .u8 3, .int .i64 (st : Int)] from h1); have G1 := Lib.hid (grown_trans' G0.out g1); have O1 := Lib.hid (OwnS.mod O0.out (Mod.of_grown g1) (fun g hg e => by injection e with e; subst e; exact O0.out.ne_cells C0.out (by decide) hg)); have ml : w1.cell? ⟨m, 0, none⟩ = some (.string (sb ll)) := C1.out.at_ rfl; have ms : w1.cell? ⟨m, 2, none⟩ = some (.int .i64 (st : Int)) := C1.out.at_ rfl; clear h1 g1)
          | (refine wpList_storeC (off := 0) (p := [.string ⟨#[]⟩]) szStr rfl (.tmp 97) (.const (.string ⟨#[]⟩)) rfl (.string ⟨#[]⟩) rfl (fun u hu => by rw [List.mem_singleton.1 hu]; rfl) C1.out rfl (by simp) (by first | rfl | go_simp) (by first | rfl | go_simp) ?_; intro w2 h2 g2; have C2 := Lib.hid (show CB w2 m 29 [.string ⟨#[]⟩, .int .u8 3, .int .i64 (st : Int)] from h2); have G2 := Lib.hid (grown_trans' G1.out g2); have O2 := Lib.hid (OwnS.mod O1.out (Mod.of_grown g2) (fun g hg e => by injection e with e; subst e; exact O1.out.ne_cells C1.out (by decide) hg)); have ms2 : w2.cell? ⟨m, 2, none⟩ = some (.int .i64 (st : Int)) := C2.out.at_ rfl; clear h2 g2)
          | (refine wpList_storeC (off := 2) (p := [.int .i64 ((st : Int) + 1)]) szI1 rfl (.tmp 104) (.tmp 102) rfl (.int .i64 ((st : Int) + 1)) rfl (fun u hu => by rw [List.mem_singleton.1 hu]; rfl) C2.out rfl (by simp) (by first | rfl | go_simp) (by first | rfl | go_simp) ?_; intro w3 h3 g3; have C3 := Lib.hid (show CB w3 m 29 [.string ⟨#[]⟩, .int .u8 3, .int .i64 ((st : Int) + 1)] from h3); have G3 := Lib.hid (grown_trans' G2.out g3); have O3 := Lib.hid (OwnS.mod O2.out (Mod.of_grown g3) (fun g hg e => by injection e with e; subst e; exact O2.out.ne_cells C2.out (by decide) hg)); clear h3 g3))
        go_roundw
        case rel =>
          have ht := tk3 (s := ⟨ll, st, rr⟩) h3
          refine ⟨k + 1, lv, c, ?_, rfl, by go_num, by omega, ?_, ?_, G3.out⟩
          · rw [HT.out, ht]; simp [sb_app]; rfl
          · rw [HT.out, ht]; exact ⟨by rw [show (c.toNat : Int) = 3 from HXX.out]; exact C3.out, by have := HXX.out; simp; omega⟩
          · rw [HT.out, ht]; have := O3.out; simpa using this
        case measure => simp [intOf]; omega
      by_cases ha : 32 ≤ c.toNat ∧ c.toNat < 127
      · have e10 : (x == 10) = false := by rw [beq_eq_false_iff_ne]; have := HXX.out; omega
        have e13 : (x == 13) = false := by rw [beq_eq_false_iff_ne]; have := HXX.out; omega
        have e8 : (x == 8) = false := by rw [beq_eq_false_iff_ne]; have := HXX.out; omega
        have e127 : (x == 127) = false := by rw [beq_eq_false_iff_ne]; have := HXX.out; omega
        have e21 : (x == 21) = false := by rw [beq_eq_false_iff_ne]; have := HXX.out; omega
        have e3 : (x == 3) = false := by rw [beq_eq_false_iff_ne]; have := HXX.out; omega
        have l1 : (32 : Int) ≤ x := by have := HXX.out; omega
        have l2 : x ≤ 126 := by have := HXX.out; omega
        by_cases hq8' : q < 80
        · have hq8 : ll.length < 80 := by rw [HQ.out]; exact hq8'
          have HQ8 := Lib.hid hq8
          have hqi : (q : Int) < 80 := by omega
          clear hq8' hq8
          go_wp2_with (refine wpList_storeC (off := 1) (p := [.int .u8 x]) sz8 rfl (.tmp 31) (.tmp 29) rfl (.int .u8 x) rfl (fun u hu => by rw [List.mem_singleton.1 hu]; rfl) C0.out rfl (by simp) (by first | rfl | go_simp) (by first | rfl | go_simp) ?_; intro w1 h1 g1; have C1 := Lib.hid (show CB w1 m 29 [.string (sb ll), .int .u8 x, .int .i64 (st : Int)] from h1); have G1 := Lib.hid (grown_trans' G0.out g1); have O1 := Lib.hid (OwnS.mod O0.out (Mod.of_grown g1) (fun g hg e => by injection e with e; subst e; exact O0.out.ne_cells C0.out (by decide) hg)); have ml : w1.cell? ⟨m, 0, none⟩ = some (.string (sb ll)) := C1.out.at_ rfl; have ms : w1.cell? ⟨m, 2, none⟩ = some (.int .i64 (st : Int)) := C1.out.at_ rfl; clear h1 g1)
          have C1d := Lib.hid (show CB w1.drew m 29 [.string (sb ll), .int .u8 x, .int .i64 (st : Int)] from C1.out)
          have G1d := Lib.hid (show w.grownBy w1.drew (some m) from grown_drew G1.out)
          have O1d := Lib.hid (show OwnS w1.drew w.heap.size 9 lv (ls.map sb) from O1.out)
          have Z7 := Lib.hid (show ¬ 9223372036854775807 < q + (sb [c]).size by have := HQ.out; have e2 : (sb [c]).size = 1 := rfl; have := HFL.out; omega)
          refine helds_begin (fun _ => True) (by kernel_rfl) trivial (fun _ => ?_)
          refine helds_take (i := 0) (d := some 117) (v := ?va26_1) trivial rfl rfl (by kernel_rfl) (fun _ _ _ h => h) ?ya26_1 ?_; case ya26_1 => (refine Or.inl ⟨rfl, fun wx hS => ?_⟩; go_simp; try with_reducible rfl)
          try simp only [Act.put, List.setIfInBounds_toArray, List.set_cons_zero, List.set_cons_succ]
          refine helds_take (i := 1) (d := some 118) (v := ?va26_2) trivial rfl rfl (by kernel_rfl) (fun _ _ _ h => h) ?ya26_2 ?_; case ya26_2 => (refine Or.inl ⟨rfl, fun wx hS => ?_⟩; go_simp; try with_reducible rfl)
          try simp only [Act.put, List.setIfInBounds_toArray, List.set_cons_zero, List.set_cons_succ]
          refine helds_take (i := 2) (d := some 119) (v := ?va26_3) trivial rfl rfl (by kernel_rfl) (fun _ _ _ h => h) ?ya26_3 ?_; case ya26_3 => (refine Or.inl ⟨rfl, fun wx hS => ?_⟩; go_simp; try with_reducible rfl)
          try simp only [Act.put, List.setIfInBounds_toArray, List.set_cons_zero, List.set_cons_succ]
          refine helds_take (i := 4) (d := some 121) (v := ?va26_4) trivial rfl rfl (by kernel_rfl) (fun _ _ _ h => h) ?ya26_4 ?_; case ya26_4 => (refine Or.inl ⟨rfl, fun wx hS => ?_⟩; go_simp; try with_reducible rfl)
          try simp only [Act.put, List.setIfInBounds_toArray, List.set_cons_zero, List.set_cons_succ]
          refine helds_two (i := 3) (j := 5) (by kernel_rfl) rfl rfl rfl rfl (fun K hK => ?_) (fun K hK => ?_)
          · refine wp_valD (d := some 120) (v := .string (sb ll)) rfl ?_ ?_
            · have k : w1.drew.cell? ⟨m, 0, none⟩ = some (.string (sb ll)) := C1d.out.at_ rfl
              clear hK K
              simp [execOp, go_sem, k]
              done
            refine hK.out _ _ trivial (fun _ => ?_)
            clear hK K
            try simp only [Act.put, List.setIfInBounds_toArray, List.set_cons_zero, List.set_cons_succ]
            refine helds_one (i := 5) rfl (by kernel_rfl) rfl (fun K hK => ?_)
            refine wp_litB (d := some 122) (e := 5) x rfl (by go_simp) ?_
            intro w10 hw10
            have C10 := Lib.hid (show CB w10 m 29 [.string (sb ll), .int .u8 x, .int .i64 (st : Int)] by rw [hw10]; exact C1d.out.alloc _)
            have G10 := Lib.hid (show w.grownBy w10 (some m) by rw [hw10]; exact grown_trans' G1d.out (grown_alloc _ _ _))
            have O10 := Lib.hid (show OwnS w10 w.heap.size 9 lv (ls.map sb) by rw [hw10]; exact OwnS.mod O1d.out (Mod.made (S := fun _ => False) (grown_alloc _ _ none)) (fun _ _ h => h))
            have R10 := Lib.hid (show RB w10 w10.heap.size (some ⟨w1.heap.size, 0, none⟩) [c] 1 by rw [hw10]; exact rb1 _ _ c x HXX.out.symm)
            clear hw10
            refine hK.out _ _ trivial (fun _ => ?_)
            clear hK K
            try simp only [Act.put, List.setIfInBounds_toArray, List.set_cons_zero, List.set_cons_succ]
            refine helds_one (i := 6) rfl (by kernel_rfl) rfl (fun K hK => ?_)
            refine wp_valD (d := some 123) (v := .string (sb [c])) rfl ?_ ?_
            · have k := run_strB byteT strTy R10.out
              clear hK K
              simp only [List.length_cons, List.length_nil, Nat.zero_add] at k
              simp [execOp, go_sem, k, sb]
              done
            refine hK.out _ _ trivial (fun _ => ?_)
            clear hK K
            try simp only [Act.put, List.setIfInBounds_toArray, List.set_cons_zero, List.set_cons_succ]
            refine helds_take (i := 7) (d := some 124) (v := ?va26_5) trivial rfl rfl (by kernel_rfl) (fun _ _ _ h => h) ?ya26_5 ?_; case ya26_5 => (refine Or.inl ⟨rfl, fun wx hS => ?_⟩; have z7 : ¬ 9223372036854775807 < q + (sb [c]).size := Z7.out; go_simp; try with_reducible rfl)
            try simp only [Act.put, List.setIfInBounds_toArray, List.set_cons_zero, List.set_cons_succ]
            refine helds_take (i := 8) (d := some 125) (v := ?va26_6) trivial rfl rfl (by kernel_rfl) (fun _ _ _ h => h) ?ya26_6 ?_; case ya26_6 => (refine Or.inl ⟨rfl, fun wx hS => ?_⟩; go_simp; try with_reducible rfl)
            try simp only [Act.put, List.setIfInBounds_toArray, List.set_cons_zero, List.set_cons_succ]
            refine helds_take (i := 9) (d := some 126) (v := ?va26_7) trivial rfl rfl (by kernel_rfl) (fun _ _ _ h => h) ?ya26_7 ?_; case ya26_7 => (refine Or.inl ⟨rfl, fun wx hS => ?_⟩; go_simp; try with_reducible rfl)
            try simp only [Act.put, List.setIfInBounds_toArray, List.set_cons_zero, List.set_cons_succ]
            refine helds_one (i := 10) rfl (by kernel_rfl) rfl (fun K hK => ?_)
            refine wp_storeC (d := none) (off := 0) (p := [.string (sb (ll ++ [c]))]) szStr rfl (.tmp 126) (.tmp 124) rfl (.string (sb (ll ++ [c]))) rfl (fun u hu => by rw [List.mem_singleton.1 hu]; rfl) C10.out rfl (by simp) (by first | rfl | go_simp) (by first | rfl | (simp only [sb_app]; go_simp; done) | (go_simp; exact congrArg Value.string (sb_app ll [c]).symm)) ?_
            intro w3 h3 g3
            have C3 := Lib.hid (show CB w3 m 29 [.string (sb (ll ++ [c])), .int .u8 x, .int .i64 (st : Int)] from h3)
            have G3 := Lib.hid (grown_trans' G10.out g3)
            have O3 := Lib.hid (OwnS.mod O10.out (Mod.of_grown g3) (fun g hg e => by injection e with e; subst e; exact O10.out.ne_cells C10.out (by decide) hg))
            clear h3 g3
            refine hK.out _ _ trivial (fun _ => ?_)
            clear hK K
            try simp only [Act.put]
            refine held_end (by kernel_rfl) ?_ _
            have z11 : ¬ 9223372036854775807 < (sb sh).size + (sb [c]).size := z1
            have HCV := Lib.hid (fun W : World => conv_one W c x HXX.out.symm)
            go_wp2_with (refine wpList_convR rfl (.tmp 129) rfl (u := .slice (some ⟨w3.heap.size, 0, none⟩) 1 1) (v := .string (sb [c])) (by first | rfl | go_simp) (HCV.out w3) ?_)
            go_roundw
            case rel =>
              have ht := tkAdd (s := ⟨ll, st, rr⟩) ha HQ8.out
              refine ⟨k + 1, lv, c, ?_, rfl, by go_num, by omega, ?_, ?_, (grown_trans' G3.out (grown_alloc _ _ _))⟩
              · rw [HT.out, ht]; rw [sb_app]
              · rw [HT.out, ht]; exact ⟨by rw [show (c.toNat : Int) = x from HXX.out]; exact C3.out.alloc _, by have := HXX.out; simp; omega⟩
              · rw [HT.out, ht]; have := (show OwnS (w3.alloc (.cells #[.int .u8 x] 5)) w.heap.size 9 lv (ls.map sb) from OwnS.mod O3.out (Mod.made (S := fun _ => False) (grown_alloc _ _ none)) (fun _ _ h => h)); simpa using this
            case measure => simp [intOf]; omega
          · refine wp_litB (d := some 122) (e := 5) x rfl (by go_simp) ?_
            intro w10 hw10
            have C10 := Lib.hid (show CB w10 m 29 [.string (sb ll), .int .u8 x, .int .i64 (st : Int)] by rw [hw10]; exact C1d.out.alloc _)
            have G10 := Lib.hid (show w.grownBy w10 (some m) by rw [hw10]; exact grown_trans' G1d.out (grown_alloc _ _ _))
            have O10 := Lib.hid (show OwnS w10 w.heap.size 9 lv (ls.map sb) by rw [hw10]; exact OwnS.mod O1d.out (Mod.made (S := fun _ => False) (grown_alloc _ _ none)) (fun _ _ h => h))
            have R10 := Lib.hid (show RB w10 w10.heap.size (some ⟨w1.heap.size, 0, none⟩) [c] 1 by rw [hw10]; exact rb1 _ _ c x HXX.out.symm)
            clear hw10
            refine hK.out _ _ trivial (fun _ => ?_)
            clear hK K
            try simp only [Act.put, List.setIfInBounds_toArray, List.set_cons_zero, List.set_cons_succ]
            refine helds_two (i := 3) (j := 6) (by kernel_rfl) rfl rfl rfl rfl (fun K hK => ?_) (fun K hK => ?_)
            · refine wp_valD (d := some 120) (v := .string (sb ll)) rfl ?_ ?_
              · have k : w10.cell? ⟨m, 0, none⟩ = some (.string (sb ll)) := C10.out.at_ rfl
                clear hK K
                simp [execOp, go_sem, k]
                done
              refine hK.out _ _ trivial (fun _ => ?_)
              clear hK K
              try simp only [Act.put, List.setIfInBounds_toArray, List.set_cons_zero, List.set_cons_succ]
              refine helds_one (i := 6) rfl (by kernel_rfl) rfl (fun K hK => ?_)
              refine wp_valD (d := some 123) (v := .string (sb [c])) rfl ?_ ?_
              · have k := run_strB byteT strTy R10.out
                clear hK K
                simp only [List.length_cons, List.length_nil, Nat.zero_add] at k
                simp [execOp, go_sem, k, sb]
                done
              refine hK.out _ _ trivial (fun _ => ?_)
              clear hK K
              try simp only [Act.put, List.setIfInBounds_toArray, List.set_cons_zero, List.set_cons_succ]
              refine helds_take (i := 7) (d := some 124) (v := ?va26_8) trivial rfl rfl (by kernel_rfl) (fun _ _ _ h => h) ?ya26_8 ?_; case ya26_8 => (refine Or.inl ⟨rfl, fun wx hS => ?_⟩; have z7 : ¬ 9223372036854775807 < q + (sb [c]).size := Z7.out; go_simp; try with_reducible rfl)
              try simp only [Act.put, List.setIfInBounds_toArray, List.set_cons_zero, List.set_cons_succ]
              refine helds_take (i := 8) (d := some 125) (v := ?va26_9) trivial rfl rfl (by kernel_rfl) (fun _ _ _ h => h) ?ya26_9 ?_; case ya26_9 => (refine Or.inl ⟨rfl, fun wx hS => ?_⟩; go_simp; try with_reducible rfl)
              try simp only [Act.put, List.setIfInBounds_toArray, List.set_cons_zero, List.set_cons_succ]
              refine helds_take (i := 9) (d := some 126) (v := ?va26_10) trivial rfl rfl (by kernel_rfl) (fun _ _ _ h => h) ?ya26_10 ?_; case ya26_10 => (refine Or.inl ⟨rfl, fun wx hS => ?_⟩; go_simp; try with_reducible rfl)
              try simp only [Act.put, List.setIfInBounds_toArray, List.set_cons_zero, List.set_cons_succ]
              refine helds_one (i := 10) rfl (by kernel_rfl) rfl (fun K hK => ?_)
              refine wp_storeC (d := none) (off := 0) (p := [.string (sb (ll ++ [c]))]) szStr rfl (.tmp 126) (.tmp 124) rfl (.string (sb (ll ++ [c]))) rfl (fun u hu => by rw [List.mem_singleton.1 hu]; rfl) C10.out rfl (by simp) (by first | rfl | go_simp) (by first | rfl | (simp only [sb_app]; go_simp; done) | (go_simp; exact congrArg Value.string (sb_app ll [c]).symm)) ?_
              intro w3 h3 g3
              have C3 := Lib.hid (show CB w3 m 29 [.string (sb (ll ++ [c])), .int .u8 x, .int .i64 (st : Int)] from h3)
              have G3 := Lib.hid (grown_trans' G10.out g3)
              have O3 := Lib.hid (OwnS.mod O10.out (Mod.of_grown g3) (fun g hg e => by injection e with e; subst e; exact O10.out.ne_cells C10.out (by decide) hg))
              clear h3 g3
              refine hK.out _ _ trivial (fun _ => ?_)
              clear hK K
              try simp only [Act.put]
              refine held_end (by kernel_rfl) ?_ _
              have z11 : ¬ 9223372036854775807 < (sb sh).size + (sb [c]).size := z1
              have HCV := Lib.hid (fun W : World => conv_one W c x HXX.out.symm)
              go_wp2_with (refine wpList_convR rfl (.tmp 129) rfl (u := .slice (some ⟨w3.heap.size, 0, none⟩) 1 1) (v := .string (sb [c])) (by first | rfl | go_simp) (HCV.out w3) ?_)
              go_roundw
              case rel =>
                have ht := tkAdd (s := ⟨ll, st, rr⟩) ha HQ8.out
                refine ⟨k + 1, lv, c, ?_, rfl, by go_num, by omega, ?_, ?_, (grown_trans' G3.out (grown_alloc _ _ _))⟩
                · rw [HT.out, ht]; rw [sb_app]
                · rw [HT.out, ht]; exact ⟨by rw [show (c.toNat : Int) = x from HXX.out]; exact C3.out.alloc _, by have := HXX.out; simp; omega⟩
                · rw [HT.out, ht]; have := (show OwnS (w3.alloc (.cells #[.int .u8 x] 5)) w.heap.size 9 lv (ls.map sb) from OwnS.mod O3.out (Mod.made (S := fun _ => False) (grown_alloc _ _ none)) (fun _ _ h => h)); simpa using this
              case measure => simp [intOf]; omega
            · refine wp_valD (d := some 123) (v := .string (sb [c])) rfl ?_ ?_
              · have k := run_strB byteT strTy R10.out
                clear hK K
                simp only [List.length_cons, List.length_nil, Nat.zero_add] at k
                simp [execOp, go_sem, k, sb]
                done
              refine hK.out _ _ trivial (fun _ => ?_)
              clear hK K
              try simp only [Act.put, List.setIfInBounds_toArray, List.set_cons_zero, List.set_cons_succ]
              refine helds_one (i := 3) rfl (by kernel_rfl) rfl (fun K hK => ?_)
              refine wp_valD (d := some 120) (v := .string (sb ll)) rfl ?_ ?_
              · have k : w10.cell? ⟨m, 0, none⟩ = some (.string (sb ll)) := C10.out.at_ rfl
                clear hK K
                simp [execOp, go_sem, k]
                done
              refine hK.out _ _ trivial (fun _ => ?_)
              clear hK K
              try simp only [Act.put, List.setIfInBounds_toArray, List.set_cons_zero, List.set_cons_succ]
              refine helds_take (i := 7) (d := some 124) (v := ?va26_11) trivial rfl rfl (by kernel_rfl) (fun _ _ _ h => h) ?ya26_11 ?_; case ya26_11 => (refine Or.inl ⟨rfl, fun wx hS => ?_⟩; have z7 : ¬ 9223372036854775807 < q + (sb [c]).size := Z7.out; go_simp; try with_reducible rfl)
              try simp only [Act.put, List.setIfInBounds_toArray, List.set_cons_zero, List.set_cons_succ]
              refine helds_take (i := 8) (d := some 125) (v := ?va26_12) trivial rfl rfl (by kernel_rfl) (fun _ _ _ h => h) ?ya26_12 ?_; case ya26_12 => (refine Or.inl ⟨rfl, fun wx hS => ?_⟩; go_simp; try with_reducible rfl)
              try simp only [Act.put, List.setIfInBounds_toArray, List.set_cons_zero, List.set_cons_succ]
              refine helds_take (i := 9) (d := some 126) (v := ?va26_13) trivial rfl rfl (by kernel_rfl) (fun _ _ _ h => h) ?ya26_13 ?_; case ya26_13 => (refine Or.inl ⟨rfl, fun wx hS => ?_⟩; go_simp; try with_reducible rfl)
              try simp only [Act.put, List.setIfInBounds_toArray, List.set_cons_zero, List.set_cons_succ]
              refine helds_one (i := 10) rfl (by kernel_rfl) rfl (fun K hK => ?_)
              refine wp_storeC (d := none) (off := 0) (p := [.string (sb (ll ++ [c]))]) szStr rfl (.tmp 126) (.tmp 124) rfl (.string (sb (ll ++ [c]))) rfl (fun u hu => by rw [List.mem_singleton.1 hu]; rfl) C10.out rfl (by simp) (by first | rfl | go_simp) (by first | rfl | (simp only [sb_app]; go_simp; done) | (go_simp; exact congrArg Value.string (sb_app ll [c]).symm)) ?_
              intro w3 h3 g3
              have C3 := Lib.hid (show CB w3 m 29 [.string (sb (ll ++ [c])), .int .u8 x, .int .i64 (st : Int)] from h3)
              have G3 := Lib.hid (grown_trans' G10.out g3)
              have O3 := Lib.hid (OwnS.mod O10.out (Mod.of_grown g3) (fun g hg e => by injection e with e; subst e; exact O10.out.ne_cells C10.out (by decide) hg))
              clear h3 g3
              refine hK.out _ _ trivial (fun _ => ?_)
              clear hK K
              try simp only [Act.put]
              refine held_end (by kernel_rfl) ?_ _
              have z11 : ¬ 9223372036854775807 < (sb sh).size + (sb [c]).size := z1
              have HCV := Lib.hid (fun W : World => conv_one W c x HXX.out.symm)
              go_wp2_with (refine wpList_convR rfl (.tmp 129) rfl (u := .slice (some ⟨w3.heap.size, 0, none⟩) 1 1) (v := .string (sb [c])) (by first | rfl | go_simp) (HCV.out w3) ?_)
              go_roundw
              case rel =>
                have ht := tkAdd (s := ⟨ll, st, rr⟩) ha HQ8.out
                refine ⟨k + 1, lv, c, ?_, rfl, by go_num, by omega, ?_, ?_, (grown_trans' G3.out (grown_alloc _ _ _))⟩
                · rw [HT.out, ht]; rw [sb_app]
                · rw [HT.out, ht]; exact ⟨by rw [show (c.toNat : Int) = x from HXX.out]; exact C3.out.alloc _, by have := HXX.out; simp; omega⟩
                · rw [HT.out, ht]; have := (show OwnS (w3.alloc (.cells #[.int .u8 x] 5)) w.heap.size 9 lv (ls.map sb) from OwnS.mod O3.out (Mod.made (S := fun _ => False) (grown_alloc _ _ none)) (fun _ _ h => h)); simpa using this
              case measure => simp [intOf]; omega
        · have hq8 : ¬ ll.length < 80 := by rw [HQ.out]; exact hq8'
          have hqi : ¬ (q : Int) < 80 := by omega
          clear hq8'
          go_wp2_with (refine wpList_storeC (off := 1) (p := [.int .u8 x]) sz8 rfl (.tmp 31) (.tmp 29) rfl (.int .u8 x) rfl (fun u hu => by rw [List.mem_singleton.1 hu]; rfl) C0.out rfl (by simp) (by first | rfl | go_simp) (by first | rfl | go_simp) ?_; intro w1 h1 g1; have C1 := Lib.hid (show CB w1 m 29 [.string (sb ll), .int .u8 x, .int .i64 (st : Int)] from h1); have G1 := Lib.hid (grown_trans' G0.out g1); have O1 := Lib.hid (OwnS.mod O0.out (Mod.of_grown g1) (fun g hg e => by injection e with e; subst e; exact O0.out.ne_cells C0.out (by decide) hg)); have ml : w1.cell? ⟨m, 0, none⟩ = some (.string (sb ll)) := C1.out.at_ rfl; have ms : w1.cell? ⟨m, 2, none⟩ = some (.int .i64 (st : Int)) := C1.out.at_ rfl; clear h1 g1)
          go_roundw
          case rel =>
            have ht := tkFull (s := ⟨ll, st, rr⟩) ha hq8
            refine ⟨k + 1, lv, c, ?_, rfl, by go_num, by omega, ?_, ?_, G1.out⟩
            · rw [HT.out, ht]; rw [sb_app]; rfl
            · rw [HT.out, ht]; exact ⟨by rw [show (c.toNat : Int) = x from HXX.out]; exact C1.out, by have := HXX.out; simp; omega⟩
            · rw [HT.out, ht]; have := O1.out; simpa using this
          case measure => simp [intOf]; omega
      by_cases hlo : c.toNat < 32
      · have e10 : (x == 10) = false := by rw [beq_eq_false_iff_ne]; have := HXX.out; omega
        have e13 : (x == 13) = false := by rw [beq_eq_false_iff_ne]; have := HXX.out; omega
        have e8 : (x == 8) = false := by rw [beq_eq_false_iff_ne]; have := HXX.out; omega
        have e127 : (x == 127) = false := by rw [beq_eq_false_iff_ne]; have := HXX.out; omega
        have e21 : (x == 21) = false := by rw [beq_eq_false_iff_ne]; have := HXX.out; omega
        have e3 : (x == 3) = false := by rw [beq_eq_false_iff_ne]; have := HXX.out; omega
        have l1 : ¬ (32 : Int) ≤ x := by have := HXX.out; omega
        go_wp2_with (refine wpList_storeC (off := 1) (p := [.int .u8 x]) sz8 rfl (.tmp 31) (.tmp 29) rfl (.int .u8 x) rfl (fun u hu => by rw [List.mem_singleton.1 hu]; rfl) C0.out rfl (by simp) (by first | rfl | go_simp) (by first | rfl | go_simp) ?_; intro w1 h1 g1; have C1 := Lib.hid (show CB w1 m 29 [.string (sb ll), .int .u8 x, .int .i64 (st : Int)] from h1); have G1 := Lib.hid (grown_trans' G0.out g1); have O1 := Lib.hid (OwnS.mod O0.out (Mod.of_grown g1) (fun g hg e => by injection e with e; subst e; exact O0.out.ne_cells C0.out (by decide) hg)); have ml : w1.cell? ⟨m, 0, none⟩ = some (.string (sb ll)) := C1.out.at_ rfl; have ms : w1.cell? ⟨m, 2, none⟩ = some (.int .i64 (st : Int)) := C1.out.at_ rfl; clear h1 g1)
        go_roundw
        case rel =>
          have ht := tkNone (s := ⟨ll, st, rr⟩) (.inl ⟨hlo, h10, h13, h8, h21, h3⟩)
          refine ⟨k + 1, lv, c, ?_, rfl, by go_num, by omega, ?_, ?_, G1.out⟩
          · rw [HT.out, ht]; simp
          · rw [HT.out, ht]; exact ⟨by rw [show (c.toNat : Int) = x from HXX.out]; exact C1.out, by have := HXX.out; simp; omega⟩
          · rw [HT.out, ht]; have := O1.out; simpa using this
        case measure => simp [intOf]; omega
      have e10 : (x == 10) = false := by rw [beq_eq_false_iff_ne]; have := HXX.out; omega
      have e13 : (x == 13) = false := by rw [beq_eq_false_iff_ne]; have := HXX.out; omega
      have e8 : (x == 8) = false := by rw [beq_eq_false_iff_ne]; have := HXX.out; omega
      have e127 : (x == 127) = false := by rw [beq_eq_false_iff_ne]; have := HXX.out; omega
      have e21 : (x == 21) = false := by rw [beq_eq_false_iff_ne]; have := HXX.out; omega
      have e3 : (x == 3) = false := by rw [beq_eq_false_iff_ne]; have := HXX.out; omega
      have l1 : (32 : Int) ≤ x := by have := HXX.out; omega
      have l2 : ¬ x ≤ 126 := by have := HXX.out; omega
      have hhi : 127 < c.toNat := by omega
      go_wp2_with (refine wpList_storeC (off := 1) (p := [.int .u8 x]) sz8 rfl (.tmp 31) (.tmp 29) rfl (.int .u8 x) rfl (fun u hu => by rw [List.mem_singleton.1 hu]; rfl) C0.out rfl (by simp) (by first | rfl | go_simp) (by first | rfl | go_simp) ?_; intro w1 h1 g1; have C1 := Lib.hid (show CB w1 m 29 [.string (sb ll), .int .u8 x, .int .i64 (st : Int)] from h1); have G1 := Lib.hid (grown_trans' G0.out g1); have O1 := Lib.hid (OwnS.mod O0.out (Mod.of_grown g1) (fun g hg e => by injection e with e; subst e; exact O0.out.ne_cells C0.out (by decide) hg)); have ml : w1.cell? ⟨m, 0, none⟩ = some (.string (sb ll)) := C1.out.at_ rfl; have ms : w1.cell? ⟨m, 2, none⟩ = some (.int .i64 (st : Int)) := C1.out.at_ rfl; clear h1 g1)
      go_roundw
      case rel =>
        have ht := tkNone (s := ⟨ll, st, rr⟩) (.inr hhi)
        refine ⟨k + 1, lv, c, ?_, rfl, by go_num, by omega, ?_, ?_, G1.out⟩
        · rw [HT.out, ht]; simp
        · rw [HT.out, ht]; exact ⟨by rw [show (c.toNat : Int) = x from HXX.out]; exact C1.out, by have := HXX.out; simp; omega⟩
        · rw [HT.out, ht]; have := O1.out; simpa using this
      case measure => simp [intOf]; omega
    · obtain rfl : k = n := by omega
      have hki : ¬ (k : Int) < (k : Int) := by omega
      have hlt : l.take k = l := List.take_of_length_le (by rw [HN.out]; exact Nat.le_refl _)
      rw [hlt] at hx ho ⊢
      have HX := Lib.hid hx
      have HO := Lib.hid ho
      have HG := Lib.hid hg
      clear hx ho hg hlt
      go_wp2
      go_ret2
      exact ⟨lv, rfl, ⟨y', HX.out⟩, HO.out, HG.out⟩
end Go.Proofs.Ytbkaabimafipoaa
