/- A Sealer by symbols: Seal of too much, Open, Drawn. -/
import Derived.Test.YthgejidimnbplaaGreatDoorSed
namespace Go.Proofs.YthgejidimnbplaaGreatDoor
open Go.RowKit Go.Maps

theorem run_eqlBs (t : TypeId) (A B : Array Value) (w : World) : (binOp .eql t (.agg A) (.agg B)).run Tryz.prog w = ((Op.equalIn 10000 t (.agg A) (.agg B)).run Tryz.prog w).andThen fun q w' => .ok (.bool q) w' := by
  simp [binOp, Op.equal, Op.maxDepth]
theorem run_eqlK {a b : List UInt8} (ha : a.length = 16) (hb : b.length = 16) (w : World) : (binOp .eql 23 (.agg (bcells a).toArray) (.agg (bcells b).toArray)).run Tryz.prog w = .ok (.bool (a == b)) w := by
  rw [run_eqlBs, run_arrB Tryz.underlying23 sz8 Tryz.underlying5 ha hb 9998 w]; rfl
theorem run_neqK {a b : List UInt8} (ha : a.length = 16) (hb : b.length = 16) (w : World) : (binOp .neq 23 (.agg (bcells a).toArray) (.agg (bcells b).toArray)).run Tryz.prog w = .ok (.bool (!(a == b))) w := by
  have h : (Op.equal 23 (.agg (bcells a).toArray) (.agg (bcells b).toArray)).run Tryz.prog w = .ok (a == b) w := run_arrB Tryz.underlying23 sz8 Tryz.underlying5 ha hb 9998 w
  simp [binOp, h, Result.andThen]
theorem wpList_cmpV {P : Program} {ops : Array Oper} {rest : List Oper} {o : Oper} {a : Act} {w : World} {Q : Exit → Act → World → Prop} {op : BinOp} {ty k : TypeId} {A B : Array Value} {c : Bool} (h2 : op = .eql ∨ op = .neq) (hgt : P.eqGuardType P.depth ty = false) (hgd : o.guard = none) (x y : Operand) (ho : o.op = .binOp op ty x y k) (hx : a.eval x = .agg A) (hy : a.eval y = .agg B) (hE : ∀ w, (binOp op ty (.agg A) (.agg B)).run P w = .ok (.bool c) w) (hk : wpList P ops Q rest (a.put o.dst (.bool c)) w) : wpList P ops Q (o :: rest) a w := by
  refine wpList_plain hgd fun K hK => ?_
  unfold Oper.wp execOp
  rcases h2 with rfl | rfl
  · simp only [ho, hx, hy, Sem.run_bind, Sem.run_pure, Result.andThen_ok, hE, run_eqGuard_agg w .eql ty x y A B hgt]
    exact hK _ _ hk
  · simp only [ho, hx, hy, Sem.run_bind, Sem.run_pure, Result.andThen_ok, hE, run_eqGuard_agg w .neq ty x y A B hgt]
    exact hK _ _ hk

theorem cell_grown_old {w w' : World} {a : Addr} {v : Value} (hg : w.grownBy w' none) (h : w.cell? a = some v) : w'.cell? a = some v := hg.cell h (by simp)
set_option maxRecDepth 10000 in
set_option maxHeartbeats 1000000 in
theorem seal_long (w : World) (s : Nat) (key : List UInt8) (u : Int) (A : Option Addr) (n cap : Nat) (hl : 2000 < n) :
    Calls Tryz.prog 14 #[.pointer (some ⟨s, 0, none⟩), .agg (bcells key).toArray, .int .i64 u, .slice A n cap] w fun e w' => e = .returned (.tuple #[.slice none 0 0, .int .i64 23]) ∧ w.grownBy w' none := by
  have hli : (2000 : Int) < (n : Int) := by omega
  have G0 := Lib.hid (grown_alloc w (.cells (bcells key).toArray 23) none)
  clear hl
  go_enter Tryz.func14, Tryz.ntmps14
  go_wp2
  go_ret2
  exact ⟨rfl, G0.out⟩
/-- What a Sealer that has sealed these opens. -/
def openS (T : List Te) (key : List UInt8) (u : Int) (box : List UInt8) : Option (List UInt8) :=
  if box.length = 9 ∧ box.headD 0 = 83 then (match T[numOf (box.drop 1)]? with | some t => if t.1 = key ∧ t.2.1 = u then some t.2.2 else none | none => none) else none
def Opened (w : World) (o : Option (List UInt8)) (e : Ending) (w' : World) : Prop :=
  w.grownBy w' none ∧ match o with
    | some p => ∃ A c, e = .returned (.tuple #[.slice A p.length c, .int .i64 0]) ∧ OwnB w' w.heap.size 5 (.slice A p.length c) p
    | none => e = .returned (.tuple #[.slice none 0 0, .int .i64 40])
theorem Opened.no {w w' : World} {o : Option (List UInt8)} (ho : o = none) (hg : w.grownBy w' none) : Opened w o (.returned (.tuple #[.slice none 0 0, .int .i64 40])) w' := ⟨hg, by rw [ho]⟩

set_option maxRecDepth 100000 in
set_option maxHeartbeats 4000000 in
theorem openSym_any (w : World) (B s : Nat) (r : Option Nat) (T : List Te) (d : Nat) (h : SS w B s r T d) (key : List UInt8) (u : Int) (A : Option Addr) (box : List UInt8) (n cap : Nat) (hk : key.length = 16) (hn : box.length = n) (hp : RB w w.heap.size A box cap) (hb : n ≤ 1000000) (hT : T.length < 1000000) (hpl : ∀ t ∈ T, t.2.2.length ≤ 100000) :
    Calls Tryz.prog 19 #[.pointer (some ⟨s, 0, none⟩), .agg (bcells key).toArray, .int .i64 u, .slice A n cap] w fun e w' => Opened w (openS T key u box) e w' := by
  have G0 := Lib.hid (grown_alloc w (.cells (bcells key).toArray 23) none)
  by_cases h9 : n = 9
  · obtain ⟨b, off, rfl, -, hcell⟩ := hp.open_ (by omega)
    have q0 : w.cell? ⟨b, off + 0, none⟩ = some (.int .u8 ((box.headD 0).toNat : Int)) := by
      rw [hcell 0 (by omega)]
      cases box with
      | nil => simp at hn; omega
      | cons x l => rfl
    by_cases h83 : box.headD 0 = 83
    · have hcap : 9 ≤ cap := by have := hp.1; omega
      have HL8 := Lib.hid (show (box.drop 1).length = 8 by rw [List.length_drop]; omega)
      have hcut := hp.cut (k := 1) (by omega)
      rw [if_neg (by omega)] at hcut
      have RC := Lib.hid (show RB (w.alloc (.cells (bcells key).toArray 23)) (w.alloc (.cells (bcells key).toArray 23)).heap.size (some ⟨b, off + 1, none⟩) (box.drop 1) (cap - 1) from RB.keptS hcut (grown_alloc w _ none))
      have q1 := cell_grown_old (grown_alloc w (.cells (bcells key).toArray 23) none) q0
      rw [h83] at q1
      simp only [Nat.add_zero] at q1
      have hc1 : ¬ cap = 1 := by omega
      have hc1b : ¬ 1 = cap := by omega
      have hci : (9 : Int) ≤ (cap : Int) := by omega
      have HK16 := Lib.hid hk
      have K0 := Lib.hid (CB.new w 23 (bcells key))
      obtain ⟨k, hkk⟩ : ∃ k, numOf (box.drop 1) = k := ⟨_, rfl⟩
      have HKK := Lib.hid hkk
      have HK64 := Lib.hid (show k < 18446744073709551616 by rw [← hkk]; exact numOf_lt8 HL8.out)
      obtain ⟨m, hm⟩ : ∃ m, T.length = m := ⟨_, rfl⟩
      have hT9 : box.length = 9 ∧ box.headD 0 = 83 := ⟨by omega, h83⟩
      obtain ⟨h1, h2, v, rows, h0, hcb, hrow, hrl, hrt⟩ := h
      rw [hm] at hcb hT hrl
      have HSD := Lib.hid (show CB (w.alloc (.cells (bcells key).toArray 23)) s 46 (seC d m v) from hcb.kept (grown_alloc w _ none))
      have qs := HSD.out.at_ (seC_se d m v)
      have HSZ := Lib.hid (show (w.alloc (.cells (bcells key).toArray 23)).heap.size = w.heap.size + 1 by simp)
      have TK0 := Lib.hid True.intro
      by_cases hkm : k < m
      · obtain ⟨t, ht⟩ : ∃ t, T[k]? = some t := ⟨_, List.getElem?_eq_getElem (by omega)⟩
        obtain ⟨A3, c3, hr3, hpb⟩ := hrt k t ht
        obtain ⟨A2, cap2, rfl, hsr, -⟩ := hrow.shape
        rw [hrl] at HSD
        obtain ⟨b2, off2, hA2, hb2, hel⟩ := hsr.elem (k := k) (by omega)
        subst hA2
        have hrk : rows[k]'(by omega) = teC t A3 c3 := by
          have := List.getElem?_eq_getElem (l := rows) (i := k) (by omega)
          rw [hr3] at this
          injection this with this
          exact this.symm
        rw [hrk] at hel
        have HEL := Lib.hid (show ∀ j v, (teC t A3 c3)[j]? = some v → (w.alloc (.cells (bcells key).toArray 23)).cell? ⟨b2, off2 + k * 18 + j, none⟩ = some v from fun j v hj => cell_grown_old (grown_alloc w _ none) (by rw [Nat.mul_comm k 18]; exact hel j v hj))
        have HT16 := Lib.hid (show t.1.length = 16 from h2 t (List.mem_of_getElem? ht))
        have HPB := Lib.hid (show t.2.2.length ≤ 100000 from hpl t (List.mem_of_getElem? ht))
        obtain ⟨np, hnp⟩ : ∃ n, t.2.2.length = n := ⟨_, rfl⟩
        have HNP := Lib.hid hnp
        rw [hnp] at HPB
        have RP := Lib.hid (show RB (w.alloc (.cells (bcells key).toArray 23)) (w.alloc (.cells (bcells key).toArray 23)).heap.size A3 t.2.2 c3 from RB.keptS hpb.1 (grown_alloc w _ none))
        have HTK := Lib.hid (show ((teC t A3 c3).drop 0).take 16 = bcells t.1 by rw [List.drop_zero, teC, List.take_append_of_le_length (by rw [bcells_length, HT16.out]; exact Nat.le_refl _)]; exact List.take_of_length_le (by rw [bcells_length, HT16.out]; exact Nat.le_refl _))
        obtain ⟨tu, htu⟩ : ∃ x, t.2.1 = x := ⟨_, rfl⟩
        have HTU := Lib.hid (show (teC t A3 c3)[16]? = some (.int .i64 tu) by rw [teC, List.getElem?_append_right (by rw [bcells_length, HT16.out]; exact Nat.le_refl _), bcells_length, HT16.out, ← htu]; rfl)
        have HTP := Lib.hid (show (teC t A3 c3)[17]? = some (.slice A3 np c3) by rw [teC, List.getElem?_append_right (by rw [bcells_length, HT16.out]; omega), bcells_length, HT16.out, ← hnp]; rfl)
        have qt := HSD.out.at_ (seC_te d m _)
        have hkmi : (k : Int) < (m : Int) := by omega
        have hmk : ¬ m ≤ k := by omega
        have hmi : (m : Int) < 1000000 := by omega
        subst h9
        by_cases hke : t.1 = key
        · have HCM := Lib.hid (show ∀ w, (binOp .neq 23 (.agg (bcells t.1).toArray) (.agg (bcells key).toArray)).run Tryz.prog w = .ok (.bool false) w from fun w => by rw [run_neqK HT16.out hk, hke]; simp)
          by_cases hue : tu = u
          · have HO := Lib.hid (show openS T key u box = some t.2.2 by unfold openS; rw [if_pos hT9, hkk, ht]; simp only; rw [if_pos ⟨hke, htu.trans hue⟩])
            subst hue
            clear hk hn hp hb hT hpl hcell q0 h83 hcut hkk hm hT9 h1 h2 h0 hcb hrow hrl hrt ht hr3 hpb hsr hel hrk hnp hke hcap htu
            go_enter Tryz.func19, Tryz.ntmps19
            go_wp2_with (first
              | (go_at_call 35; refine (narrow_any (some ⟨b, off + 1, none⟩) (box.drop 1) (cap - 1) _ HL8.out RC.out).mono ?_; rw [HKK.out]; rintro e wq ⟨rfl, rfl⟩)
              | (refine wpList_loadX aggTe rfl (.tmp 35) rfl (b := b2) (off := off2 + k * 18) (p := teC t A3 c3) HEL.out (teC_len t A3 c3 HT16.out) (by first | rfl | go_simp) ?_)
              | (refine wpList_allocC zeroTe_run rfl rfl ?_)
              | (refine wpList_storeC (off := 0) (p := teC t A3 c3) aggTe.hi rfl (.tmp 11) (.tmp 36) rfl (.agg (teC t A3 c3).toArray) rfl (teC_one t A3 c3) (CB.new (w.alloc (.cells (bcells key).toArray 23)) 50 (teC (zeros 16, 0, []) none 0)) (teC_len t A3 c3 HT16.out) (by rw [teC_len _ none 0 (by rfl)]; omega) (by first | rfl | go_simp) (by first | rfl | go_simp) ?_; intro w3 h3 g3; rw [over_all _ _ (by rw [teC_len t A3 c3 HT16.out, teC_len _ none 0 (by rfl)]; exact Nat.le_refl _)] at h3; have g4 := none_new (grown_alloc (w.alloc (.cells (bcells key).toArray 23)) (.cells (teC (zeros 16, 0, []) none 0).toArray 50) none) g3 (Nat.le_refl _); rw [HSZ.out] at h3; have C3 := Lib.hid h3; have K3 := Lib.hid (K0.out.kept g4); have G3 := Lib.hid (grown_trans' G0.out g4); have qu := h3.at_ HTU.out; have qp := h3.at_ HTP.out; have R3 := Lib.hid (RP.out.keptS g4); clear h3 g3 g4 qs TK0; have TK1 := Lib.hid True.intro)
              | (have hx := TK1; clear hx; refine wpList_loadC (off := 0) (p := bcells t.1) aggKy rfl (.tmp 37) rfl C3.out HTK.out (by rw [teC_len t A3 c3 HT16.out]; omega) (by first | rfl | go_simp) ?_; clear TK1; have TK2 := Lib.hid True.intro)
              | (have hx := TK2; clear hx; refine wpList_loadC (off := 0) (p := bcells key) aggKy rfl (.tmp 5) rfl K3.out (take_all (by rw [bcells_length]; exact HK16.out)) (by rw [bcells_length, HK16.out]; omega) (by first | rfl | go_simp) ?_; clear TK2; have TK3 := Lib.hid True.intro)
              | (have hx := TK3; clear hx; refine wpList_cmpV (.inr rfl) (by kernel_rfl) rfl (.tmp 38) (.tmp 39) rfl (by first | rfl | go_simp) (by first | rfl | go_simp) HCM.out ?_; clear TK3)
              | (go_at_call 17; refine (qclone_any A3 t.2.2 c3 np _ HNP.out R3.out (by have := HPB.out; omega)).mono ?_; rintro e w5 ⟨A5, c5, rfl, o5, b5⟩; have O5 := Lib.hid (o5.base_ G3.out.size); have G5 := Lib.hid (grown_trans' G3.out (none_of_below b5 (Nat.le_refl _))); clear o5 b5))
            go_ret2
            exact ⟨G5.out, by rw [HO.out]; exact ⟨A5, c5, by rw [HNP.out]; rfl, by rw [HNP.out]; exact O5.out⟩⟩
          · have HO := Lib.hid (show openS T key u box = none by unfold openS; rw [if_pos hT9, hkk, ht]; simp only; rw [if_neg (fun e => hue (htu.symm.trans e.2))])
            have hu1 : (tu == u) = false := by simpa using hue
            have hu2 : (tu != u) = true := by simpa using hue
            clear hk hn hp hb hT hpl hcell q0 h83 hcut hkk hm hT9 h1 h2 h0 hcb hrow hrl hrt ht hr3 hpb hsr hel hrk hnp hke hue hcap htu
            go_enter Tryz.func19, Tryz.ntmps19
            go_wp2_with (first
              | (go_at_call 35; refine (narrow_any (some ⟨b, off + 1, none⟩) (box.drop 1) (cap - 1) _ HL8.out RC.out).mono ?_; rw [HKK.out]; rintro e wq ⟨rfl, rfl⟩)
              | (refine wpList_loadX aggTe rfl (.tmp 35) rfl (b := b2) (off := off2 + k * 18) (p := teC t A3 c3) HEL.out (teC_len t A3 c3 HT16.out) (by first | rfl | go_simp) ?_)
              | (refine wpList_allocC zeroTe_run rfl rfl ?_)
              | (refine wpList_storeC (off := 0) (p := teC t A3 c3) aggTe.hi rfl (.tmp 11) (.tmp 36) rfl (.agg (teC t A3 c3).toArray) rfl (teC_one t A3 c3) (CB.new (w.alloc (.cells (bcells key).toArray 23)) 50 (teC (zeros 16, 0, []) none 0)) (teC_len t A3 c3 HT16.out) (by rw [teC_len _ none 0 (by rfl)]; omega) (by first | rfl | go_simp) (by first | rfl | go_simp) ?_; intro w3 h3 g3; rw [over_all _ _ (by rw [teC_len t A3 c3 HT16.out, teC_len _ none 0 (by rfl)]; exact Nat.le_refl _)] at h3; have g4 := none_new (grown_alloc (w.alloc (.cells (bcells key).toArray 23)) (.cells (teC (zeros 16, 0, []) none 0).toArray 50) none) g3 (Nat.le_refl _); rw [HSZ.out] at h3; have C3 := Lib.hid h3; have K3 := Lib.hid (K0.out.kept g4); have G3 := Lib.hid (grown_trans' G0.out g4); have qu := h3.at_ HTU.out; have qp := h3.at_ HTP.out; have R3 := Lib.hid (RP.out.keptS g4); clear h3 g3 g4 qs TK0; have TK1 := Lib.hid True.intro)
              | (have hx := TK1; clear hx; refine wpList_loadC (off := 0) (p := bcells t.1) aggKy rfl (.tmp 37) rfl C3.out HTK.out (by rw [teC_len t A3 c3 HT16.out]; omega) (by first | rfl | go_simp) ?_; clear TK1; have TK2 := Lib.hid True.intro)
              | (have hx := TK2; clear hx; refine wpList_loadC (off := 0) (p := bcells key) aggKy rfl (.tmp 5) rfl K3.out (take_all (by rw [bcells_length]; exact HK16.out)) (by rw [bcells_length, HK16.out]; omega) (by first | rfl | go_simp) ?_; clear TK2; have TK3 := Lib.hid True.intro)
              | (have hx := TK3; clear hx; refine wpList_cmpV (.inr rfl) (by kernel_rfl) rfl (.tmp 38) (.tmp 39) rfl (by first | rfl | go_simp) (by first | rfl | go_simp) HCM.out ?_; clear TK3))
            go_ret2
            exact Opened.no HO.out G3.out
        · have HCM := Lib.hid (show ∀ w, (binOp .neq 23 (.agg (bcells t.1).toArray) (.agg (bcells key).toArray)).run Tryz.prog w = .ok (.bool true) w from fun w => by rw [run_neqK HT16.out hk, beq_false_of_ne hke]; rfl)
          have HO := Lib.hid (show openS T key u box = none by unfold openS; rw [if_pos hT9, hkk, ht]; simp only; rw [if_neg (fun e => hke e.1)])
          clear hk hn hp hb hT hpl hcell q0 h83 hcut hkk hm hT9 h1 h2 h0 hcb hrow hrl hrt ht hr3 hpb hsr hel hrk hnp hke hcap htu
          go_enter Tryz.func19, Tryz.ntmps19
          go_wp2_with (first
            | (go_at_call 35; refine (narrow_any (some ⟨b, off + 1, none⟩) (box.drop 1) (cap - 1) _ HL8.out RC.out).mono ?_; rw [HKK.out]; rintro e wq ⟨rfl, rfl⟩)
            | (refine wpList_loadX aggTe rfl (.tmp 35) rfl (b := b2) (off := off2 + k * 18) (p := teC t A3 c3) HEL.out (teC_len t A3 c3 HT16.out) (by first | rfl | go_simp) ?_)
            | (refine wpList_allocC zeroTe_run rfl rfl ?_)
            | (refine wpList_storeC (off := 0) (p := teC t A3 c3) aggTe.hi rfl (.tmp 11) (.tmp 36) rfl (.agg (teC t A3 c3).toArray) rfl (teC_one t A3 c3) (CB.new (w.alloc (.cells (bcells key).toArray 23)) 50 (teC (zeros 16, 0, []) none 0)) (teC_len t A3 c3 HT16.out) (by rw [teC_len _ none 0 (by rfl)]; omega) (by first | rfl | go_simp) (by first | rfl | go_simp) ?_; intro w3 h3 g3; rw [over_all _ _ (by rw [teC_len t A3 c3 HT16.out, teC_len _ none 0 (by rfl)]; exact Nat.le_refl _)] at h3; have g4 := none_new (grown_alloc (w.alloc (.cells (bcells key).toArray 23)) (.cells (teC (zeros 16, 0, []) none 0).toArray 50) none) g3 (Nat.le_refl _); rw [HSZ.out] at h3; have C3 := Lib.hid h3; have K3 := Lib.hid (K0.out.kept g4); have G3 := Lib.hid (grown_trans' G0.out g4); have qu := h3.at_ HTU.out; have qp := h3.at_ HTP.out; have R3 := Lib.hid (RP.out.keptS g4); clear h3 g3 g4 qs TK0; have TK1 := Lib.hid True.intro)
            | (have hx := TK1; clear hx; refine wpList_loadC (off := 0) (p := bcells t.1) aggKy rfl (.tmp 37) rfl C3.out HTK.out (by rw [teC_len t A3 c3 HT16.out]; omega) (by first | rfl | go_simp) ?_; clear TK1; have TK2 := Lib.hid True.intro)
            | (have hx := TK2; clear hx; refine wpList_loadC (off := 0) (p := bcells key) aggKy rfl (.tmp 5) rfl K3.out (take_all (by rw [bcells_length]; exact HK16.out)) (by rw [bcells_length, HK16.out]; omega) (by first | rfl | go_simp) ?_; clear TK2; have TK3 := Lib.hid True.intro)
            | (have hx := TK3; clear hx; refine wpList_cmpV (.inr rfl) (by kernel_rfl) rfl (.tmp 38) (.tmp 39) rfl (by first | rfl | go_simp) (by first | rfl | go_simp) HCM.out ?_; clear TK3))
          go_ret2
          exact Opened.no HO.out G3.out
      · have HO := Lib.hid (show openS T key u box = none by unfold openS; rw [if_pos hT9, hkk, List.getElem?_eq_none (by omega)])
        have hkm1 : m ≤ k := by omega
        have hkm2 : (m : Int) ≤ (k : Int) := by omega
        subst h9
        clear h1 h2 h0 hcb hrow hrl hrt hk hn hp hb hT hpl hcell q0 h83 hcut hkk hm hT9 hkm
        go_enter Tryz.func19, Tryz.ntmps19
        go_wp2_with (go_at_call 35; refine (narrow_any (some ⟨b, off + 1, none⟩) (box.drop 1) (cap - 1) _ HL8.out RC.out).mono ?_; rw [HKK.out]; rintro e wq ⟨rfl, rfl⟩)
        go_ret2
        exact Opened.no HO.out G0.out
    · have HO := Lib.hid (show openS T key u box = none by unfold openS; rw [if_neg (fun e => h83 e.2)])
      obtain ⟨x, hx⟩ : ∃ x, box.headD 0 = x := ⟨_, rfl⟩
      rw [hx] at q0 h83
      have hne : ((x.toNat : Int) == 83) = false := by
        have : x.toNat ≠ 83 := fun e => h83 (UInt8.toNat_inj.1 e)
        simp; omega
      have hne2 : ((x.toNat : Int) != 83) = true := by rw [bne, hne]; rfl
      have q1 := cell_grown_old (grown_alloc w (.cells (bcells key).toArray 23) none) q0
      simp only [Nat.add_zero] at q1
      subst h9
      clear h hk hn hp hb hT hpl hcell q0 h83 hx
      go_enter Tryz.func19, Tryz.ntmps19
      go_wp2
      go_ret2
      exact Opened.no HO.out G0.out
  · have HO := Lib.hid (show openS T key u box = none by unfold openS; rw [if_neg (fun e => h9 (by omega))])
    have hne : (n == 9) = false := by simpa using h9
    have hne2 : ((n : Int) == 9) = false := by simp; omega
    have hne3 : ((n : Int) != 9) = true := by simp; omega
    have hne4 : ¬ (n : Int) = 9 := by omega
    clear h hk hn hp hb hT hpl h9
    go_enter Tryz.func19, Tryz.ntmps19
    go_wp2
    go_ret2
    exact Opened.no HO.out G0.out
end Go.Proofs.YthgejidimnbplaaGreatDoor
