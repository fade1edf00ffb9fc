/- The walk of what a terminal does with one byte. -/
import Derived.Test.YtbkaabimafipoaaPta
namespace Go.Proofs.Ytbkaabimafipoaa
open Go.ChangeShapes Go.WideShapes Go.RowKit

theorem szB1 : (Try.prog.info? 4).map (·.size) = some 1 := by kernel_rfl
theorem szI1 : (Try.prog.info? 3).map (·.size) = some 1 := by kernel_rfl
theorem strTy : Try.prog.underlying 9 = some .string := Try.underlying9
theorem aggS : ∀ w, (isAgg 30).run Try.prog w = .ok false w := fun w => by kernel_rfl
theorem yields_cellX {P : Program} {ops : Array Oper} {S : World → Prop} {oi : Oper} {a : Act} {ty : TypeId} (hag : ∀ w, (isAgg ty).run P w = .ok false w) (x : Operand) (ho : oi.op = .load ty x) (hw : Region.wanted oi (yielded ops a.tmps) = true)
    {ad : Addr} {v : Value} (h : ∀ wx, S wx → wx.cell? ad = some v) (hx : a.eval x = .pointer (some ad)) : YieldsIf P ops S oi v a := by
  refine .inl ⟨hw, fun wx hS => ?_⟩
  have hc := h wx hS
  unfold execOp
  simp only [ho, hx]
  simp [go_sem, hag, hc]
theorem yields_convX {P : Program} {ops : Array Oper} {S : World → Prop} {oi : Oper} {a : Act} {t1 t2 : TypeId} {u v : Value} (x : Operand) (ho : oi.op = .convert t1 t2 x) (hw : Region.wanted oi (yielded ops a.tmps) = true)
    (hx : a.eval x = u) (h : ∀ wx, S wx → (convert t1 t2 u).run P wx = .ok v wx) : YieldsIf P ops S oi v a := by
  refine .inl ⟨hw, fun wx hS => ?_⟩
  have hc := h wx hS
  unfold execOp
  simp only [ho, hx]
  simp [go_sem, hc]
theorem wp_valD {P : Program} {o : Oper} {a : Act} {w : World} {K : Act → World → Prop} {Q : Exit → Act → World → Prop} {d : Option Tmp} {v : Value} (hd : o.dst = d) (h : (execOp a.eval o).run P w = .ok (.value v) w) (hk : K (a.put d v) w) : o.wp P a w K Q := by
  subst hd
  unfold Oper.wp
  rw [h]
  exact hk
section
variable {P : Program} {ops : Array Oper} {Q : Exit → Act → World → Prop} {md : Region.Mode} {S : World → Prop}
/-- What is asked of an operation that may come up. -/
def UpS (P : Program) (ops : Array Oper) (Q : Exit → Act → World → Prop) (md : Region.Mode) (S : World → Prop) (fuel : Nat) (listed : Array Bool) (i : Nat) (o : Oper) (a : Act) (w : World) : Prop :=
  ∀ K : Act → World → Prop, Shut (∀ a' w', S w' → (S w' → wpAnyH P md ops Q S fuel (listed.setIfInBounds i true) a' w') → K a' w') → o.wp P a w K Q
theorem upS_op {fuel : Nat} {listed : Array Bool} {i : Nat} {o : Oper} {a : Act} {w : World} (hi : ops[i]? = some o) (hw : Region.wanted o (yielded ops a.tmps) = true) (h : UpS P ops Q md S fuel listed i o a w) :
    wpOp P ops Q i (fun a' w' => S w' ∧ wpAnyH P md ops Q S fuel (listed.setIfInBounds i true) a' w') a w := by
  unfold wpOp
  rw [hi]
  simp only [hw, if_true]
  exact .inl (h _ fun a' w' hf hh => ⟨hf, hh hf⟩)
theorem helds_two {i j : Nat} {oi oj : Oper} {fuel : Nat} {listed : Array Bool} {a : Act} {w : World} (hr : Region.ready md ops listed = [i, j]) (hi : ops[i]? = some oi) (hj : ops[j]? = some oj)
    (hwi : Region.wanted oi (yielded ops a.tmps) = true) (hwj : Region.wanted oj (yielded ops a.tmps) = true)
    (h1 : UpS P ops Q md S fuel listed i oi a w) (h2 : UpS P ops Q md S fuel listed j oj a w) : wpAnyH P md ops Q S (fuel + 1) listed a w := by
  refine wpAnyH_all hr (by simp) fun k hk => ?_
  simp only [List.mem_cons, List.not_mem_nil, or_false] at hk
  rcases hk with rfl | rfl
  · exact upS_op hi hwi h1
  · exact upS_op hj hwj h2
end
/-- '[]string{s}'. -/
theorem wp_litS {P : Program} {w : World} {o : Oper} {d : Option Tmp} {a : Act} {K : Act → World → Prop} {Q : Exit → Act → World → Prop} {e : TypeId} (s : ByteArray) (_hd : o.dst = d)
    (hrun : o.wp P a w (fun a' w' => a' = a.put d (.slice (some ⟨w.heap.size, 0, none⟩) 1 1) ∧ w' = w.alloc (.cells #[.string s] e)) Q)
    (hk : ∀ g w', g = w.heap.size → w'.cell? ⟨g, 0, none⟩ = some (.string s) → w.grownBy w' none → K (a.put d (.slice (some ⟨g, 0, none⟩) 1 1)) w') : o.wp P a w K Q := by
  refine Oper.wp_mono (fun a' w' h => ?_) hrun
  obtain ⟨rfl, rfl⟩ := h
  exact hk _ _ rfl (cell_heap (heap_alloc_new w _) 0) (grown_alloc _ _ _)
/-- The line can be read. -/
def LnS (p : Nat) (v : Value) (A : Option Addr) (l : List UInt8) (cc : Nat) (x : World) : Prop := x.cell? ⟨p, 0, none⟩ = some v ∧ ∃ B, RB x B A l cc
theorem PT.lnS {w : World} {base p n cc : Nat} {A : Option Addr} {s : Tm} (h : PT w base p (.slice A n cc) s) : LnS p (.slice A n cc) A s.line cc w := by
  refine ⟨h.2.1.at_ rfl, w.heap.size, ?_⟩
  obtain ⟨A', c', e, hr, -⟩ := h.2.2.shape
  injection e with e1 e2 e3
  subst e1 e3
  exact hr

/-- What is asked ahead of a byte. -/
structure OkX (w : World) (base b2 : Nat) (s : Tm) (sh : List UInt8) (ls : List (List UInt8)) : Prop where
  hb : b2 ≤ w.heap.size
  hb1 : base ≤ w.heap.size
  hsh : sh.length ≤ 900000000
  hls : ls.length ≤ 900000
  hl : s.line.length ≤ 80
  hst : s.stops ≤ 4611686018427387904
section
variable {w : World} {base b2 p t : Nat} {v sv lv : Value} {s : Tm} {sh : List UInt8} {ls : List (List UInt8)}
set_option maxHeartbeats 1000000 in
theorem take_skip (h : PX w base b2 p t v sv lv s sh ls) (ok : OkX w base b2 s sh ls) (c : UInt8) (hc : c.toNat = 10) (hr : s.ret = true) :
    Calls Try.prog 15 #[.pointer (some ⟨p, 0, none⟩), .int .u8 (c.toNat : Int), .pointer (some ⟨t, 0, none⟩)] w fun e w' => e = .returned (.tuple #[]) ∧ PR w w' base b2 p t v sv lv (tkF s c).1 (sh ++ (tkF s c).2.1) (ls ++ (tkF s c).2.2) := by
  have hT : tkF s c = (⟨s.line, s.stops, false⟩, [], []) := by unfold tkF; rw [if_neg (by simp [hr]; omega), if_neg (by omega), if_neg (by omega), if_neg (by omega), if_neg (by omega)]
  rw [hT]
  simp only [List.append_nil]
  obtain ⟨hb, hb1, hsh, hls, hl, hst⟩ := ok
  obtain ⟨A, cc, hv0, -, -⟩ := h.pt.2.2.shape
  obtain ⟨n, hn⟩ : ∃ n, s.line.length = n := ⟨_, rfl⟩
  have HN := Lib.hid hn
  rw [hn] at hv0
  subst hv0
  have HS := Lib.hid hsh
  have HLS := Lib.hid hls
  have HL := Lib.hid hl
  have k2 : w.cell? ⟨p, 2, none⟩ = some (.bool s.ret) := h.pt.2.1.at_ rfl
  have C0 := Lib.hid h.pt.2.1
  have H := Lib.hid h
  clear h hsh hls hl hT hn
  rw [hc, show ((10 : Nat) : Int) = 10 from rfl]
  clear hc
  rw [hr] at k2
  clear hr
  go_enter Try.func15, Try.ntmps15
  go_wp2_with (refine wpList_storeC (off := 2) (p := [.bool false]) szB1 rfl (.tmp 15) (.tmp 13) rfl (.bool false) rfl (fun u hu => by rw [List.mem_singleton.1 hu]; rfl) C0.out rfl (by simp) (by first | rfl | go_simp) (by first | rfl | go_simp) ?_; intro w1 h1 g1; have D1 := Lib.hid (H.out.cells (s' := ⟨s.line, s.stops, false⟩) (v' := .slice A n cc) h1 g1 (.inl ⟨rfl, rfl⟩)); have S1 := Lib.hid g1.size; clear h1 g1)
  go_end0
  exact ⟨rfl, _, _, _, D1.out⟩
set_option maxHeartbeats 4000000 in
theorem take_line10 (h : PX w base b2 p t v sv lv s sh ls) (ok : OkX w base b2 s sh ls) (c : UInt8) (hc : c.toNat = 10) (hr : s.ret = false) :
    Calls Try.prog 15 #[.pointer (some ⟨p, 0, none⟩), .int .u8 (c.toNat : Int), .pointer (some ⟨t, 0, none⟩)] w fun e w' => e = .returned (.tuple #[]) ∧ PR w w' base b2 p t v sv lv (tkF s c).1 (sh ++ (tkF s c).2.1) (ls ++ (tkF s c).2.2) := by
  have hT : tkF s c = (⟨[], s.stops, false⟩, [13, 10], [s.line]) := by unfold tkF; rw [if_pos (by simp [hc, hr])]; simp [hc]
  rw [hT]
  skip
  obtain ⟨hb, hb1, hsh, hls, hl, hst⟩ := ok
  obtain ⟨A, cc, hv0, -, -⟩ := h.pt.2.2.shape
  obtain ⟨n, hn⟩ : ∃ n, s.line.length = n := ⟨_, rfl⟩
  have HN := Lib.hid hn
  rw [hn] at hv0
  subst hv0
  have HS := Lib.hid hsh
  have HLS := Lib.hid hls
  have HL := Lib.hid hl
  have k2 : w.cell? ⟨p, 2, none⟩ = some (.bool s.ret) := h.pt.2.1.at_ rfl
  have C0 := Lib.hid h.pt.2.1
  have H := Lib.hid h
  clear h hsh hls hl hT hn
  rw [hc, show ((10 : Nat) : Int) = 10 from rfl]
  clear hc
  rw [hr] at k2
  clear hr
  go_enter Try.func15, Try.ntmps15
  go_wp2_with (refine wpList_storeC (off := 2) (p := [.bool false]) szB1 rfl (.tmp 15) (.tmp 13) rfl (.bool false) rfl (fun u hu => by rw [List.mem_singleton.1 hu]; rfl) C0.out rfl (by simp) (by first | rfl | go_simp) (by first | rfl | go_simp) ?_; intro w1 h1 g1; have D1 := Lib.hid (H.out.cells (s' := ⟨s.line, s.stops, false⟩) (v' := .slice A n cc) h1 g1 (.inl ⟨rfl, rfl⟩)); have S1 := Lib.hid g1.size; clear h1 g1)
  have X1 := Lib.hid (show PX w1.drew base b2 p t (.slice A n cc) sv lv ⟨s.line, s.stops, false⟩ sh ls from D1.out.1.made (grown_drew (World.grownBy.refl _ _)))
  have hS1 : LnS p (.slice A n cc) A s.line cc w1.drew := X1.out.pt.lnS
  refine helds_begin (LnS p (.slice A n cc) A s.line cc) (by kernel_rfl) hS1 (fun _ => ?_)
  refine helds_take (i := 0) (d := some 30) (v := ?vl10_1) (by assumption) rfl rfl (by kernel_rfl) (fun _ _ _ h => h) ?yl10_1 ?_; case yl10_1 => (refine Or.inl ⟨rfl, fun wx hS => ?_⟩; go_simp; try with_reducible rfl)
  try simp only [Act.put, List.setIfInBounds_toArray, List.set_cons_zero, List.set_cons_succ]
  refine helds_take (i := 1) (d := some 31) (v := ?vl10_2) (by assumption) rfl rfl (by kernel_rfl) (fun _ _ _ h => h) ?yl10_2 ?_; case yl10_2 => (refine Or.inl ⟨rfl, fun wx hS => ?_⟩; go_simp; try with_reducible rfl)
  try simp only [Act.put, List.setIfInBounds_toArray, List.set_cons_zero, List.set_cons_succ]
  refine helds_take (i := 2) (d := some 32) (v := ?vl10_3) (by assumption) rfl rfl (by kernel_rfl) (fun _ _ _ h => h) ?yl10_3 ?_; case yl10_3 => (refine Or.inl ⟨rfl, fun wx hS => ?_⟩; go_simp; try with_reducible rfl)
  try simp only [Act.put, List.setIfInBounds_toArray, List.set_cons_zero, List.set_cons_succ]
  refine helds_take (i := 3) (d := some 33) (v := ?vl10_4) (by assumption) rfl rfl (by kernel_rfl) (fun _ _ _ h => h) ?yl10_4 ?_; case yl10_4 => (refine Or.inl ⟨rfl, fun wx hS => ?_⟩; go_simp; try with_reducible rfl)
  try simp only [Act.put, List.setIfInBounds_toArray, List.set_cons_zero, List.set_cons_succ]
  refine helds_take (i := 5) (d := some 35) (v := ?vl10_5) (by assumption) rfl rfl (by kernel_rfl) (fun _ _ _ h => h) ?yl10_5 ?_; case yl10_5 => (refine Or.inl ⟨rfl, fun wx hS => ?_⟩; go_simp; try with_reducible rfl)
  try simp only [Act.put, List.setIfInBounds_toArray, List.set_cons_zero, List.set_cons_succ]
  refine helds_take (i := 6) (d := some 36) (v := ?vl10_6) (by assumption) rfl rfl (by kernel_rfl) (fun _ _ _ h => h) ?yl10_6 ?_; case yl10_6 => (refine Or.inl ⟨rfl, fun wx hS => ?_⟩; go_simp; try with_reducible rfl)
  try simp only [Act.put, List.setIfInBounds_toArray, List.set_cons_zero, List.set_cons_succ]
  refine helds_take (i := 7) (d := some 37) (v := ?vl10_7) (by assumption) rfl rfl (by kernel_rfl) (fun _ _ _ h => h) ?yl10_7 ?_; case yl10_7 => (refine Or.inl ⟨rfl, fun wx hS => ?_⟩; go_simp; try with_reducible rfl)
  try simp only [Act.put, List.setIfInBounds_toArray, List.set_cons_zero, List.set_cons_succ]
  refine helds_take (i := 8) (d := some 38) (v := _) (by assumption) rfl rfl (by kernel_rfl) (fun _ _ _ h => h) (yields_cellX aggS (.tmp 37) rfl rfl (fun wx hx => hx.1) (by first | rfl | go_simp)) ?_
  try simp only [Act.put, List.setIfInBounds_toArray, List.set_cons_zero, List.set_cons_succ]
  refine helds_take (i := 9) (d := some 39) (v := _) (by assumption) rfl rfl (by kernel_rfl) (fun _ _ _ h => h) (yields_convX (.tmp 38) rfl rfl (by first | rfl | go_simp) (fun wx hx => by obtain ⟨-, B, hr⟩ := hx; have := run_strB byteT strTy hr; rw [HN.out] at this; exact this)) ?_
  try simp only [Act.put, List.setIfInBounds_toArray, List.set_cons_zero, List.set_cons_succ]
  refine helds_two (i := 4) (j := 10) (by kernel_rfl) rfl rfl rfl rfl (fun K hK => ?_) (fun K hK => ?_)
  · refine wp_valD (d := some 34) (v := lv) rfl ?_ ?_
    · have k : w1.drew.cell? ⟨t, 1, none⟩ = some lv := X1.out.td.2.1.at_ rfl
      clear hK K
      simp [execOp, go_sem, k]
      done
    refine hK.out _ _ (by assumption) (fun _ => ?_)
    clear hK K
    try simp only [Act.put, List.setIfInBounds_toArray, List.set_cons_zero, List.set_cons_succ]
    refine helds_one (i := 10) rfl (by kernel_rfl) rfl (fun K hK => ?_)
    refine wp_litS (d := some 40) (e := 9) ⟨s.line.toArray⟩ rfl (by go_simp) ?_
    intro g10 w10 hg10 hc10 hm10
    have X10 := Lib.hid (X1.out.made hm10)
    have C10 := Lib.hid hc10
    have G10 := Lib.hid hm10
    have hS10 : LnS p (.slice A n cc) A s.line cc w10 := X10.out.pt.lnS
    clear hg10 hc10 hm10
    refine hK.out _ _ (by assumption) (fun _ => ?_)
    clear hK K
    try simp only [Act.put, List.setIfInBounds_toArray, List.set_cons_zero, List.set_cons_succ]
    refine helds_one (i := 11) rfl (by kernel_rfl) rfl (fun K hK => ?_)
    refine wp_appS (d := some 41) strT rfl (.tmp 34) (.tmp 40) rfl X10.out.td.2.2.2 C10.out rfl rfl (by rw [List.length_map]; have := HLS.out; omega) (by have := S1.out; have : w1.heap.size ≤ w10.heap.size := G10.out.size; omega) ?_
    intro lv2 w2 o2 g2 a2
    have P2 := Lib.hid (X10.out.pt.mod (Mod.of_grown g2) (fun e => X10.out.td.2.2.2.ne_cells X10.out.pt.2.1 (by decide) e.symm) (fun g hg e => own_nes X10.out.pt.2.2 X10.out.td.2.2.2 g hg e.symm))
    have C2 := Lib.hid (X10.out.td.2.1.mod (Mod.of_grown g2) (fun e => X10.out.td.2.2.2.ne_cells X10.out.td.2.1 (by decide) e.symm))
    have O2 := Lib.hid o2
    have G2 := Lib.hid g2
    have A2 := Lib.hid a2
    have hS11 : LnS p (.slice A n cc) A s.line cc w2 := P2.out.lnS
    clear o2 g2 a2
    refine hK.out _ _ (by assumption) (fun _ => ?_)
    clear hK K
    try simp only [Act.put, List.setIfInBounds_toArray, List.set_cons_zero, List.set_cons_succ]
    refine helds_take (i := 12) (d := some 42) (v := ?vl10_10) (by assumption) rfl rfl (by kernel_rfl) (fun _ _ _ h => h) ?yl10_10 ?_; case yl10_10 => (refine Or.inl ⟨rfl, fun wx hS => ?_⟩; go_simp; try with_reducible rfl)
    try simp only [Act.put, List.setIfInBounds_toArray, List.set_cons_zero, List.set_cons_succ]
    refine helds_take (i := 13) (d := some 43) (v := ?vl10_11) (by assumption) rfl rfl (by kernel_rfl) (fun _ _ _ h => h) ?yl10_11 ?_; case yl10_11 => (refine Or.inl ⟨rfl, fun wx hS => ?_⟩; go_simp; try with_reducible rfl)
    try simp only [Act.put, List.setIfInBounds_toArray, List.set_cons_zero, List.set_cons_succ]
    refine helds_one (i := 14) rfl (by kernel_rfl) rfl (fun K hK => ?_)
    refine wp_storeC (d := none) (off := 1) (p := [lv2]) szSS rfl (.tmp 43) (.tmp 41) rfl lv2 (by obtain ⟨_, _, hx, _⟩ := O2.out.shape; rw [hx]; rfl) (fun u hu => by rw [List.mem_singleton.1 hu]; obtain ⟨_, _, hx, _⟩ := O2.out.shape; rw [hx]; rfl) C2.out rfl (by simp) rfl rfl ?_
    intro w3 h3 g3
    have D3 := Lib.hid (X1.out.told (x := s.line) G10.out O2.out G2.out A2.out h3 g3)
    have S3 := Lib.hid (show w.heap.size ≤ w3.heap.size from Nat.le_trans S1.out (Nat.le_trans (Nat.le_trans G10.out.size G2.out.size) g3.size))
    have hS14 : LnS p (.slice A n cc) A s.line cc w3 := D3.out.1.pt.lnS
    clear h3 g3
    refine hK.out _ _ (by assumption) (fun _ => ?_)
    clear hK K
    try simp only [Act.put]
    refine held_end (by kernel_rfl) ?_ _
    clear X10 C10 G10 hS10 P2 C2 O2 G2 A2 hS11 hS14
    go_wp2_with (first
    | (refine wpList_storeC (off := 0) (p := [.slice none 0 0]) szS rfl (.tmp 46) (.const (.slice none 0 0)) rfl (.slice none 0 0) rfl (fun u hu => by rw [List.mem_singleton.1 hu]; rfl) D3.out.1.pt.2.1 rfl (by simp) (by first | rfl | go_simp) (by first | rfl | go_simp) ?_; intro w4 h4 g4; have D4 := Lib.hid (D3.out.1.cells (v' := .slice none 0 0) (s' := ⟨[], _, _⟩) h4 g4 (.inr ⟨rfl, rfl⟩)); have S4 := Lib.hid (Nat.le_trans S3.out g4.size); clear h4 g4)
    | (go_at_call 16; refine (show_any (D4.out.1.alloc _) (by have := S4.out; rw [World.size_alloc]; omega) (by have := HS.out; omega) _ _ 2 2 rfl (rb2 _ _ 13 10 13 10 rfl rfl) (by omega)).mono ?_; rintro e wz ⟨rfl, rz⟩; have RZ := Lib.hid rz; clear rz))
    go_end0
    exact ⟨rfl, PD.next D1.out (PD.next (show PD w1 w1.drew base b2 p t (.slice A n cc) sv lv (.slice A n cc) sv lv ⟨s.line, s.stops, false⟩ sh ls from ⟨X1.out, (Mod.refl _ _).drew, Nw.refl _ _, Nw.refl _ _, Nw.refl _ _⟩) (PD.next D3.out (PD.next D4.out (prA _ RZ.out))))⟩
  · refine wp_litS (d := some 40) (e := 9) ⟨s.line.toArray⟩ rfl (by go_simp) ?_
    intro g10 w10 hg10 hc10 hm10
    have X10 := Lib.hid (X1.out.made hm10)
    have C10 := Lib.hid hc10
    have G10 := Lib.hid hm10
    have hS10 : LnS p (.slice A n cc) A s.line cc w10 := X10.out.pt.lnS
    clear hg10 hc10 hm10
    refine hK.out _ _ (by assumption) (fun _ => ?_)
    clear hK K
    try simp only [Act.put, List.setIfInBounds_toArray, List.set_cons_zero, List.set_cons_succ]
    refine helds_one (i := 4) rfl (by kernel_rfl) rfl (fun K hK => ?_)
    refine wp_valD (d := some 34) (v := lv) rfl ?_ ?_
    · have k : w10.cell? ⟨t, 1, none⟩ = some lv := X10.out.td.2.1.at_ rfl
      clear hK K
      simp [execOp, go_sem, k]
      done
    refine hK.out _ _ (by assumption) (fun _ => ?_)
    clear hK K
    try simp only [Act.put, List.setIfInBounds_toArray, List.set_cons_zero, List.set_cons_succ]
    refine helds_one (i := 11) rfl (by kernel_rfl) rfl (fun K hK => ?_)
    refine wp_appS (d := some 41) strT rfl (.tmp 34) (.tmp 40) rfl X10.out.td.2.2.2 C10.out rfl rfl (by rw [List.length_map]; have := HLS.out; omega) (by have := S1.out; have : w1.heap.size ≤ w10.heap.size := G10.out.size; omega) ?_
    intro lv2 w2 o2 g2 a2
    have P2 := Lib.hid (X10.out.pt.mod (Mod.of_grown g2) (fun e => X10.out.td.2.2.2.ne_cells X10.out.pt.2.1 (by decide) e.symm) (fun g hg e => own_nes X10.out.pt.2.2 X10.out.td.2.2.2 g hg e.symm))
    have C2 := Lib.hid (X10.out.td.2.1.mod (Mod.of_grown g2) (fun e => X10.out.td.2.2.2.ne_cells X10.out.td.2.1 (by decide) e.symm))
    have O2 := Lib.hid o2
    have G2 := Lib.hid g2
    have A2 := Lib.hid a2
    have hS11 : LnS p (.slice A n cc) A s.line cc w2 := P2.out.lnS
    clear o2 g2 a2
    refine hK.out _ _ (by assumption) (fun _ => ?_)
    clear hK K
    try simp only [Act.put, List.setIfInBounds_toArray, List.set_cons_zero, List.set_cons_succ]
    refine helds_take (i := 12) (d := some 42) (v := ?vl10_12) (by assumption) rfl rfl (by kernel_rfl) (fun _ _ _ h => h) ?yl10_12 ?_; case yl10_12 => (refine Or.inl ⟨rfl, fun wx hS => ?_⟩; go_simp; try with_reducible rfl)
    try simp only [Act.put, List.setIfInBounds_toArray, List.set_cons_zero, List.set_cons_succ]
    refine helds_take (i := 13) (d := some 43) (v := ?vl10_13) (by assumption) rfl rfl (by kernel_rfl) (fun _ _ _ h => h) ?yl10_13 ?_; case yl10_13 => (refine Or.inl ⟨rfl, fun wx hS => ?_⟩; go_simp; try with_reducible rfl)
    try simp only [Act.put, List.setIfInBounds_toArray, List.set_cons_zero, List.set_cons_succ]
    refine helds_one (i := 14) rfl (by kernel_rfl) rfl (fun K hK => ?_)
    refine wp_storeC (d := none) (off := 1) (p := [lv2]) szSS rfl (.tmp 43) (.tmp 41) rfl lv2 (by obtain ⟨_, _, hx, _⟩ := O2.out.shape; rw [hx]; rfl) (fun u hu => by rw [List.mem_singleton.1 hu]; obtain ⟨_, _, hx, _⟩ := O2.out.shape; rw [hx]; rfl) C2.out rfl (by simp) rfl rfl ?_
    intro w3 h3 g3
    have D3 := Lib.hid (X1.out.told (x := s.line) G10.out O2.out G2.out A2.out h3 g3)
    have S3 := Lib.hid (show w.heap.size ≤ w3.heap.size from Nat.le_trans S1.out (Nat.le_trans (Nat.le_trans G10.out.size G2.out.size) g3.size))
    have hS14 : LnS p (.slice A n cc) A s.line cc w3 := D3.out.1.pt.lnS
    clear h3 g3
    refine hK.out _ _ (by assumption) (fun _ => ?_)
    clear hK K
    try simp only [Act.put]
    refine held_end (by kernel_rfl) ?_ _
    clear X10 C10 G10 hS10 P2 C2 O2 G2 A2 hS11 hS14
    go_wp2_with (first
    | (refine wpList_storeC (off := 0) (p := [.slice none 0 0]) szS rfl (.tmp 46) (.const (.slice none 0 0)) rfl (.slice none 0 0) rfl (fun u hu => by rw [List.mem_singleton.1 hu]; rfl) D3.out.1.pt.2.1 rfl (by simp) (by first | rfl | go_simp) (by first | rfl | go_simp) ?_; intro w4 h4 g4; have D4 := Lib.hid (D3.out.1.cells (v' := .slice none 0 0) (s' := ⟨[], _, _⟩) h4 g4 (.inr ⟨rfl, rfl⟩)); have S4 := Lib.hid (Nat.le_trans S3.out g4.size); clear h4 g4)
    | (go_at_call 16; refine (show_any (D4.out.1.alloc _) (by have := S4.out; rw [World.size_alloc]; omega) (by have := HS.out; omega) _ _ 2 2 rfl (rb2 _ _ 13 10 13 10 rfl rfl) (by omega)).mono ?_; rintro e wz ⟨rfl, rz⟩; have RZ := Lib.hid rz; clear rz))
    go_end0
    exact ⟨rfl, PD.next D1.out (PD.next (show PD w1 w1.drew base b2 p t (.slice A n cc) sv lv (.slice A n cc) sv lv ⟨s.line, s.stops, false⟩ sh ls from ⟨X1.out, (Mod.refl _ _).drew, Nw.refl _ _, Nw.refl _ _, Nw.refl _ _⟩) (PD.next D3.out (PD.next D4.out (prA _ RZ.out))))⟩
set_option maxHeartbeats 4000000 in
theorem take_line13 (h : PX w base b2 p t v sv lv s sh ls) (ok : OkX w base b2 s sh ls) (c : UInt8) (hc : c.toNat = 13) :
    Calls Try.prog 15 #[.pointer (some ⟨p, 0, none⟩), .int .u8 (c.toNat : Int), .pointer (some ⟨t, 0, none⟩)] w fun e w' => e = .returned (.tuple #[]) ∧ PR w w' base b2 p t v sv lv (tkF s c).1 (sh ++ (tkF s c).2.1) (ls ++ (tkF s c).2.2) := by
  have hT : tkF s c = (⟨[], s.stops, true⟩, [13, 10], [s.line]) := by unfold tkF; rw [if_pos (by simp [hc])]; simp [hc]
  rw [hT]
  skip
  obtain ⟨hb, hb1, hsh, hls, hl, hst⟩ := ok
  obtain ⟨A, cc, hv0, -, -⟩ := h.pt.2.2.shape
  obtain ⟨n, hn⟩ : ∃ n, s.line.length = n := ⟨_, rfl⟩
  have HN := Lib.hid hn
  rw [hn] at hv0
  subst hv0
  have HS := Lib.hid hsh
  have HLS := Lib.hid hls
  have HL := Lib.hid hl
  have k2 : w.cell? ⟨p, 2, none⟩ = some (.bool s.ret) := h.pt.2.1.at_ rfl
  have C0 := Lib.hid h.pt.2.1
  have H := Lib.hid h
  clear h hsh hls hl hT hn
  rw [hc, show ((13 : Nat) : Int) = 13 from rfl]
  clear hc
  go_enter Try.func15, Try.ntmps15
  go_wp2_with (refine wpList_storeC (off := 2) (p := [.bool true]) szB1 rfl (.tmp 15) (.tmp 13) rfl (.bool true) rfl (fun u hu => by rw [List.mem_singleton.1 hu]; rfl) C0.out rfl (by simp) (by first | rfl | go_simp) (by first | rfl | go_simp) ?_; intro w1 h1 g1; have D1 := Lib.hid (H.out.cells (s' := ⟨s.line, s.stops, true⟩) (v' := .slice A n cc) h1 g1 (.inl ⟨rfl, rfl⟩)); have S1 := Lib.hid g1.size; clear h1 g1)
  have X1 := Lib.hid (show PX w1.drew base b2 p t (.slice A n cc) sv lv ⟨s.line, s.stops, true⟩ sh ls from D1.out.1.made (grown_drew (World.grownBy.refl _ _)))
  have hS1 : LnS p (.slice A n cc) A s.line cc w1.drew := X1.out.pt.lnS
  refine helds_begin (LnS p (.slice A n cc) A s.line cc) (by kernel_rfl) hS1 (fun _ => ?_)
  refine helds_take (i := 0) (d := some 30) (v := ?vl13_1) (by assumption) rfl rfl (by kernel_rfl) (fun _ _ _ h => h) ?yl13_1 ?_; case yl13_1 => (refine Or.inl ⟨rfl, fun wx hS => ?_⟩; go_simp; try with_reducible rfl)
  try simp only [Act.put, List.setIfInBounds_toArray, List.set_cons_zero, List.set_cons_succ]
  refine helds_take (i := 1) (d := some 31) (v := ?vl13_2) (by assumption) rfl rfl (by kernel_rfl) (fun _ _ _ h => h) ?yl13_2 ?_; case yl13_2 => (refine Or.inl ⟨rfl, fun wx hS => ?_⟩; go_simp; try with_reducible rfl)
  try simp only [Act.put, List.setIfInBounds_toArray, List.set_cons_zero, List.set_cons_succ]
  refine helds_take (i := 2) (d := some 32) (v := ?vl13_3) (by assumption) rfl rfl (by kernel_rfl) (fun _ _ _ h => h) ?yl13_3 ?_; case yl13_3 => (refine Or.inl ⟨rfl, fun wx hS => ?_⟩; go_simp; try with_reducible rfl)
  try simp only [Act.put, List.setIfInBounds_toArray, List.set_cons_zero, List.set_cons_succ]
  refine helds_take (i := 3) (d := some 33) (v := ?vl13_4) (by assumption) rfl rfl (by kernel_rfl) (fun _ _ _ h => h) ?yl13_4 ?_; case yl13_4 => (refine Or.inl ⟨rfl, fun wx hS => ?_⟩; go_simp; try with_reducible rfl)
  try simp only [Act.put, List.setIfInBounds_toArray, List.set_cons_zero, List.set_cons_succ]
  refine helds_take (i := 5) (d := some 35) (v := ?vl13_5) (by assumption) rfl rfl (by kernel_rfl) (fun _ _ _ h => h) ?yl13_5 ?_; case yl13_5 => (refine Or.inl ⟨rfl, fun wx hS => ?_⟩; go_simp; try with_reducible rfl)
  try simp only [Act.put, List.setIfInBounds_toArray, List.set_cons_zero, List.set_cons_succ]
  refine helds_take (i := 6) (d := some 36) (v := ?vl13_6) (by assumption) rfl rfl (by kernel_rfl) (fun _ _ _ h => h) ?yl13_6 ?_; case yl13_6 => (refine Or.inl ⟨rfl, fun wx hS => ?_⟩; go_simp; try with_reducible rfl)
  try simp only [Act.put, List.setIfInBounds_toArray, List.set_cons_zero, List.set_cons_succ]
  refine helds_take (i := 7) (d := some 37) (v := ?vl13_7) (by assumption) rfl rfl (by kernel_rfl) (fun _ _ _ h => h) ?yl13_7 ?_; case yl13_7 => (refine Or.inl ⟨rfl, fun wx hS => ?_⟩; go_simp; try with_reducible rfl)
  try simp only [Act.put, List.setIfInBounds_toArray, List.set_cons_zero, List.set_cons_succ]
  refine helds_take (i := 8) (d := some 38) (v := _) (by assumption) rfl rfl (by kernel_rfl) (fun _ _ _ h => h) (yields_cellX aggS (.tmp 37) rfl rfl (fun wx hx => hx.1) (by first | rfl | go_simp)) ?_
  try simp only [Act.put, List.setIfInBounds_toArray, List.set_cons_zero, List.set_cons_succ]
  refine helds_take (i := 9) (d := some 39) (v := _) (by assumption) rfl rfl (by kernel_rfl) (fun _ _ _ h => h) (yields_convX (.tmp 38) rfl rfl (by first | rfl | go_simp) (fun wx hx => by obtain ⟨-, B, hr⟩ := hx; have := run_strB byteT strTy hr; rw [HN.out] at this; exact this)) ?_
  try simp only [Act.put, List.setIfInBounds_toArray, List.set_cons_zero, List.set_cons_succ]
  refine helds_two (i := 4) (j := 10) (by kernel_rfl) rfl rfl rfl rfl (fun K hK => ?_) (fun K hK => ?_)
  · refine wp_valD (d := some 34) (v := lv) rfl ?_ ?_
    · have k : w1.drew.cell? ⟨t, 1, none⟩ = some lv := X1.out.td.2.1.at_ rfl
      clear hK K
      simp [execOp, go_sem, k]
      done
    refine hK.out _ _ (by assumption) (fun _ => ?_)
    clear hK K
    try simp only [Act.put, List.setIfInBounds_toArray, List.set_cons_zero, List.set_cons_succ]
    refine helds_one (i := 10) rfl (by kernel_rfl) rfl (fun K hK => ?_)
    refine wp_litS (d := some 40) (e := 9) ⟨s.line.toArray⟩ rfl (by go_simp) ?_
    intro g10 w10 hg10 hc10 hm10
    have X10 := Lib.hid (X1.out.made hm10)
    have C10 := Lib.hid hc10
    have G10 := Lib.hid hm10
    have hS10 : LnS p (.slice A n cc) A s.line cc w10 := X10.out.pt.lnS
    clear hg10 hc10 hm10
    refine hK.out _ _ (by assumption) (fun _ => ?_)
    clear hK K
    try simp only [Act.put, List.setIfInBounds_toArray, List.set_cons_zero, List.set_cons_succ]
    refine helds_one (i := 11) rfl (by kernel_rfl) rfl (fun K hK => ?_)
    refine wp_appS (d := some 41) strT rfl (.tmp 34) (.tmp 40) rfl X10.out.td.2.2.2 C10.out rfl rfl (by rw [List.length_map]; have := HLS.out; omega) (by have := S1.out; have : w1.heap.size ≤ w10.heap.size := G10.out.size; omega) ?_
    intro lv2 w2 o2 g2 a2
    have P2 := Lib.hid (X10.out.pt.mod (Mod.of_grown g2) (fun e => X10.out.td.2.2.2.ne_cells X10.out.pt.2.1 (by decide) e.symm) (fun g hg e => own_nes X10.out.pt.2.2 X10.out.td.2.2.2 g hg e.symm))
    have C2 := Lib.hid (X10.out.td.2.1.mod (Mod.of_grown g2) (fun e => X10.out.td.2.2.2.ne_cells X10.out.td.2.1 (by decide) e.symm))
    have O2 := Lib.hid o2
    have G2 := Lib.hid g2
    have A2 := Lib.hid a2
    have hS11 : LnS p (.slice A n cc) A s.line cc w2 := P2.out.lnS
    clear o2 g2 a2
    refine hK.out _ _ (by assumption) (fun _ => ?_)
    clear hK K
    try simp only [Act.put, List.setIfInBounds_toArray, List.set_cons_zero, List.set_cons_succ]
    refine helds_take (i := 12) (d := some 42) (v := ?vl13_10) (by assumption) rfl rfl (by kernel_rfl) (fun _ _ _ h => h) ?yl13_10 ?_; case yl13_10 => (refine Or.inl ⟨rfl, fun wx hS => ?_⟩; go_simp; try with_reducible rfl)
    try simp only [Act.put, List.setIfInBounds_toArray, List.set_cons_zero, List.set_cons_succ]
    refine helds_take (i := 13) (d := some 43) (v := ?vl13_11) (by assumption) rfl rfl (by kernel_rfl) (fun _ _ _ h => h) ?yl13_11 ?_; case yl13_11 => (refine Or.inl ⟨rfl, fun wx hS => ?_⟩; go_simp; try with_reducible rfl)
    try simp only [Act.put, List.setIfInBounds_toArray, List.set_cons_zero, List.set_cons_succ]
    refine helds_one (i := 14) rfl (by kernel_rfl) rfl (fun K hK => ?_)
    refine wp_storeC (d := none) (off := 1) (p := [lv2]) szSS rfl (.tmp 43) (.tmp 41) rfl lv2 (by obtain ⟨_, _, hx, _⟩ := O2.out.shape; rw [hx]; rfl) (fun u hu => by rw [List.mem_singleton.1 hu]; obtain ⟨_, _, hx, _⟩ := O2.out.shape; rw [hx]; rfl) C2.out rfl (by simp) rfl rfl ?_
    intro w3 h3 g3
    have D3 := Lib.hid (X1.out.told (x := s.line) G10.out O2.out G2.out A2.out h3 g3)
    have S3 := Lib.hid (show w.heap.size ≤ w3.heap.size from Nat.le_trans S1.out (Nat.le_trans (Nat.le_trans G10.out.size G2.out.size) g3.size))
    have hS14 : LnS p (.slice A n cc) A s.line cc w3 := D3.out.1.pt.lnS
    clear h3 g3
    refine hK.out _ _ (by assumption) (fun _ => ?_)
    clear hK K
    try simp only [Act.put]
    refine held_end (by kernel_rfl) ?_ _
    clear X10 C10 G10 hS10 P2 C2 O2 G2 A2 hS11 hS14
    go_wp2_with (first
    | (refine wpList_storeC (off := 0) (p := [.slice none 0 0]) szS rfl (.tmp 46) (.const (.slice none 0 0)) rfl (.slice none 0 0) rfl (fun u hu => by rw [List.mem_singleton.1 hu]; rfl) D3.out.1.pt.2.1 rfl (by simp) (by first | rfl | go_simp) (by first | rfl | go_simp) ?_; intro w4 h4 g4; have D4 := Lib.hid (D3.out.1.cells (v' := .slice none 0 0) (s' := ⟨[], _, _⟩) h4 g4 (.inr ⟨rfl, rfl⟩)); have S4 := Lib.hid (Nat.le_trans S3.out g4.size); clear h4 g4)
    | (go_at_call 16; refine (show_any (D4.out.1.alloc _) (by have := S4.out; rw [World.size_alloc]; omega) (by have := HS.out; omega) _ _ 2 2 rfl (rb2 _ _ 13 10 13 10 rfl rfl) (by omega)).mono ?_; rintro e wz ⟨rfl, rz⟩; have RZ := Lib.hid rz; clear rz))
    go_end0
    exact ⟨rfl, PD.next D1.out (PD.next (show PD w1 w1.drew base b2 p t (.slice A n cc) sv lv (.slice A n cc) sv lv ⟨s.line, s.stops, true⟩ sh ls from ⟨X1.out, (Mod.refl _ _).drew, Nw.refl _ _, Nw.refl _ _, Nw.refl _ _⟩) (PD.next D3.out (PD.next D4.out (prA _ RZ.out))))⟩
  · refine wp_litS (d := some 40) (e := 9) ⟨s.line.toArray⟩ rfl (by go_simp) ?_
    intro g10 w10 hg10 hc10 hm10
    have X10 := Lib.hid (X1.out.made hm10)
    have C10 := Lib.hid hc10
    have G10 := Lib.hid hm10
    have hS10 : LnS p (.slice A n cc) A s.line cc w10 := X10.out.pt.lnS
    clear hg10 hc10 hm10
    refine hK.out _ _ (by assumption) (fun _ => ?_)
    clear hK K
    try simp only [Act.put, List.setIfInBounds_toArray, List.set_cons_zero, List.set_cons_succ]
    refine helds_one (i := 4) rfl (by kernel_rfl) rfl (fun K hK => ?_)
    refine wp_valD (d := some 34) (v := lv) rfl ?_ ?_
    · have k : w10.cell? ⟨t, 1, none⟩ = some lv := X10.out.td.2.1.at_ rfl
      clear hK K
      simp [execOp, go_sem, k]
      done
    refine hK.out _ _ (by assumption) (fun _ => ?_)
    clear hK K
    try simp only [Act.put, List.setIfInBounds_toArray, List.set_cons_zero, List.set_cons_succ]
    refine helds_one (i := 11) rfl (by kernel_rfl) rfl (fun K hK => ?_)
    refine wp_appS (d := some 41) strT rfl (.tmp 34) (.tmp 40) rfl X10.out.td.2.2.2 C10.out rfl rfl (by rw [List.length_map]; have := HLS.out; omega) (by have := S1.out; have : w1.heap.size ≤ w10.heap.size := G10.out.size; omega) ?_
    intro lv2 w2 o2 g2 a2
    have P2 := Lib.hid (X10.out.pt.mod (Mod.of_grown g2) (fun e => X10.out.td.2.2.2.ne_cells X10.out.pt.2.1 (by decide) e.symm) (fun g hg e => own_nes X10.out.pt.2.2 X10.out.td.2.2.2 g hg e.symm))
    have C2 := Lib.hid (X10.out.td.2.1.mod (Mod.of_grown g2) (fun e => X10.out.td.2.2.2.ne_cells X10.out.td.2.1 (by decide) e.symm))
    have O2 := Lib.hid o2
    have G2 := Lib.hid g2
    have A2 := Lib.hid a2
    have hS11 : LnS p (.slice A n cc) A s.line cc w2 := P2.out.lnS
    clear o2 g2 a2
    refine hK.out _ _ (by assumption) (fun _ => ?_)
    clear hK K
    try simp only [Act.put, List.setIfInBounds_toArray, List.set_cons_zero, List.set_cons_succ]
    refine helds_take (i := 12) (d := some 42) (v := ?vl13_12) (by assumption) rfl rfl (by kernel_rfl) (fun _ _ _ h => h) ?yl13_12 ?_; case yl13_12 => (refine Or.inl ⟨rfl, fun wx hS => ?_⟩; go_simp; try with_reducible rfl)
    try simp only [Act.put, List.setIfInBounds_toArray, List.set_cons_zero, List.set_cons_succ]
    refine helds_take (i := 13) (d := some 43) (v := ?vl13_13) (by assumption) rfl rfl (by kernel_rfl) (fun _ _ _ h => h) ?yl13_13 ?_; case yl13_13 => (refine Or.inl ⟨rfl, fun wx hS => ?_⟩; go_simp; try with_reducible rfl)
    try simp only [Act.put, List.setIfInBounds_toArray, List.set_cons_zero, List.set_cons_succ]
    refine helds_one (i := 14) rfl (by kernel_rfl) rfl (fun K hK => ?_)
    refine wp_storeC (d := none) (off := 1) (p := [lv2]) szSS rfl (.tmp 43) (.tmp 41) rfl lv2 (by obtain ⟨_, _, hx, _⟩ := O2.out.shape; rw [hx]; rfl) (fun u hu => by rw [List.mem_singleton.1 hu]; obtain ⟨_, _, hx, _⟩ := O2.out.shape; rw [hx]; rfl) C2.out rfl (by simp) rfl rfl ?_
    intro w3 h3 g3
    have D3 := Lib.hid (X1.out.told (x := s.line) G10.out O2.out G2.out A2.out h3 g3)
    have S3 := Lib.hid (show w.heap.size ≤ w3.heap.size from Nat.le_trans S1.out (Nat.le_trans (Nat.le_trans G10.out.size G2.out.size) g3.size))
    have hS14 : LnS p (.slice A n cc) A s.line cc w3 := D3.out.1.pt.lnS
    clear h3 g3
    refine hK.out _ _ (by assumption) (fun _ => ?_)
    clear hK K
    try simp only [Act.put]
    refine held_end (by kernel_rfl) ?_ _
    clear X10 C10 G10 hS10 P2 C2 O2 G2 A2 hS11 hS14
    go_wp2_with (first
    | (refine wpList_storeC (off := 0) (p := [.slice none 0 0]) szS rfl (.tmp 46) (.const (.slice none 0 0)) rfl (.slice none 0 0) rfl (fun u hu => by rw [List.mem_singleton.1 hu]; rfl) D3.out.1.pt.2.1 rfl (by simp) (by first | rfl | go_simp) (by first | rfl | go_simp) ?_; intro w4 h4 g4; have D4 := Lib.hid (D3.out.1.cells (v' := .slice none 0 0) (s' := ⟨[], _, _⟩) h4 g4 (.inr ⟨rfl, rfl⟩)); have S4 := Lib.hid (Nat.le_trans S3.out g4.size); clear h4 g4)
    | (go_at_call 16; refine (show_any (D4.out.1.alloc _) (by have := S4.out; rw [World.size_alloc]; omega) (by have := HS.out; omega) _ _ 2 2 rfl (rb2 _ _ 13 10 13 10 rfl rfl) (by omega)).mono ?_; rintro e wz ⟨rfl, rz⟩; have RZ := Lib.hid rz; clear rz))
    go_end0
    exact ⟨rfl, PD.next D1.out (PD.next (show PD w1 w1.drew base b2 p t (.slice A n cc) sv lv (.slice A n cc) sv lv ⟨s.line, s.stops, true⟩ sh ls from ⟨X1.out, (Mod.refl _ _).drew, Nw.refl _ _, Nw.refl _ _, Nw.refl _ _⟩) (PD.next D3.out (PD.next D4.out (prA _ RZ.out))))⟩
set_option maxHeartbeats 1000000 in
theorem take_drop8 (h : PX w base b2 p t v sv lv s sh ls) (ok : OkX w base b2 s sh ls) (c : UInt8) (hc : c.toNat = 8) :
    Calls Try.prog 15 #[.pointer (some ⟨p, 0, none⟩), .int .u8 (c.toNat : Int), .pointer (some ⟨t, 0, none⟩)] w fun e w' => e = .returned (.tuple #[]) ∧ PR w w' base b2 p t v sv lv (tkF s c).1 (sh ++ (tkF s c).2.1) (ls ++ (tkF s c).2.2) := by
  have hT : tkF s c = (⟨s.line.dropLast, s.stops, false⟩, rubsN (min 1 s.line.length), []) := by unfold tkF; rw [if_neg (by omega), if_pos (by omega)]
  rw [hT]
  simp only [List.append_nil]
  obtain ⟨hb, hb1, hsh, hls, hl, hst⟩ := ok
  obtain ⟨A, cc, hv0, -, -⟩ := h.pt.2.2.shape
  obtain ⟨n, hn⟩ : ∃ n, s.line.length = n := ⟨_, rfl⟩
  have HN := Lib.hid hn
  rw [hn] at hv0
  subst hv0
  have HS := Lib.hid hsh
  have HLS := Lib.hid hls
  have HL := Lib.hid hl
  have k2 : w.cell? ⟨p, 2, none⟩ = some (.bool s.ret) := h.pt.2.1.at_ rfl
  have C0 := Lib.hid h.pt.2.1
  have H := Lib.hid h
  clear h hsh hls hl hT hn
  rw [hc, show ((8 : Nat) : Int) = 8 from rfl]
  clear hc
  go_enter Try.func15, Try.ntmps15
  go_wp2_with (first
    | (refine wpList_storeC (off := 2) (p := [.bool false]) szB1 rfl (.tmp 15) (.tmp 13) rfl (.bool false) rfl (fun u hu => by rw [List.mem_singleton.1 hu]; rfl) C0.out rfl (by simp) (by first | rfl | go_simp) (by first | rfl | go_simp) ?_; intro w1 h1 g1; have D1 := Lib.hid (H.out.cells (s' := ⟨s.line, s.stops, false⟩) (v' := .slice A n cc) h1 g1 (.inl ⟨rfl, rfl⟩)); have S1 := Lib.hid g1.size; clear h1 g1)
    | (go_at_call 17; refine (drop_any D1.out.1 (by have := S1.out; omega) (by have := HS.out; omega) HL.out).mono ?_; rintro e wz ⟨rfl, rz⟩; have RZ := Lib.hid rz; clear rz))
  go_end0
  exact ⟨rfl, PD.next D1.out RZ.out⟩
set_option maxHeartbeats 1000000 in
theorem take_drop127 (h : PX w base b2 p t v sv lv s sh ls) (ok : OkX w base b2 s sh ls) (c : UInt8) (hc : c.toNat = 127) :
    Calls Try.prog 15 #[.pointer (some ⟨p, 0, none⟩), .int .u8 (c.toNat : Int), .pointer (some ⟨t, 0, none⟩)] w fun e w' => e = .returned (.tuple #[]) ∧ PR w w' base b2 p t v sv lv (tkF s c).1 (sh ++ (tkF s c).2.1) (ls ++ (tkF s c).2.2) := by
  have hT : tkF s c = (⟨s.line.dropLast, s.stops, false⟩, rubsN (min 1 s.line.length), []) := by unfold tkF; rw [if_neg (by omega), if_pos (by omega)]
  rw [hT]
  simp only [List.append_nil]
  obtain ⟨hb, hb1, hsh, hls, hl, hst⟩ := ok
  obtain ⟨A, cc, hv0, -, -⟩ := h.pt.2.2.shape
  obtain ⟨n, hn⟩ : ∃ n, s.line.length = n := ⟨_, rfl⟩
  have HN := Lib.hid hn
  rw [hn] at hv0
  subst hv0
  have HS := Lib.hid hsh
  have HLS := Lib.hid hls
  have HL := Lib.hid hl
  have k2 : w.cell? ⟨p, 2, none⟩ = some (.bool s.ret) := h.pt.2.1.at_ rfl
  have C0 := Lib.hid h.pt.2.1
  have H := Lib.hid h
  clear h hsh hls hl hT hn
  rw [hc, show ((127 : Nat) : Int) = 127 from rfl]
  clear hc
  go_enter Try.func15, Try.ntmps15
  go_wp2_with (first
    | (refine wpList_storeC (off := 2) (p := [.bool false]) szB1 rfl (.tmp 15) (.tmp 13) rfl (.bool false) rfl (fun u hu => by rw [List.mem_singleton.1 hu]; rfl) C0.out rfl (by simp) (by first | rfl | go_simp) (by first | rfl | go_simp) ?_; intro w1 h1 g1; have D1 := Lib.hid (H.out.cells (s' := ⟨s.line, s.stops, false⟩) (v' := .slice A n cc) h1 g1 (.inl ⟨rfl, rfl⟩)); have S1 := Lib.hid g1.size; clear h1 g1)
    | (go_at_call 17; refine (drop_any D1.out.1 (by have := S1.out; omega) (by have := HS.out; omega) HL.out).mono ?_; rintro e wz ⟨rfl, rz⟩; have RZ := Lib.hid rz; clear rz))
  go_end0
  exact ⟨rfl, PD.next D1.out RZ.out⟩
set_option maxHeartbeats 1000000 in
theorem take_stop (h : PX w base b2 p t v sv lv s sh ls) (ok : OkX w base b2 s sh ls) (c : UInt8) (hc : c.toNat = 3) :
    Calls Try.prog 15 #[.pointer (some ⟨p, 0, none⟩), .int .u8 (c.toNat : Int), .pointer (some ⟨t, 0, none⟩)] w fun e w' => e = .returned (.tuple #[]) ∧ PR w w' base b2 p t v sv lv (tkF s c).1 (sh ++ (tkF s c).2.1) (ls ++ (tkF s c).2.2) := by
  have hT : tkF s c = (⟨[], s.stops + 1, false⟩, [94, 67, 13, 10], []) := by unfold tkF; rw [if_neg (by omega), if_neg (by omega), if_neg (by omega), if_pos hc]
  rw [hT]
  simp only [List.append_nil]
  obtain ⟨hb, hb1, hsh, hls, hl, hst⟩ := ok
  obtain ⟨A, cc, hv0, -, -⟩ := h.pt.2.2.shape
  obtain ⟨n, hn⟩ : ∃ n, s.line.length = n := ⟨_, rfl⟩
  have HN := Lib.hid hn
  rw [hn] at hv0
  subst hv0
  have HS := Lib.hid hsh
  have HLS := Lib.hid hls
  have HL := Lib.hid hl
  have k2 : w.cell? ⟨p, 2, none⟩ = some (.bool s.ret) := h.pt.2.1.at_ rfl
  have C0 := Lib.hid h.pt.2.1
  have H := Lib.hid h
  clear h hsh hls hl hT hn
  rw [hc, show ((3 : Nat) : Int) = 3 from rfl]
  clear hc
  have hwr : IntKind.i64.wrap ((s.stops : Int) + 1) = (s.stops : Int) + 1 := by simp [IntKind.wrap, IntKind.bits, IntKind.signed]; omega
  clear hst
  go_enter Try.func15, Try.ntmps15
  go_wp2_with (first
    | (refine wpList_storeC (off := 2) (p := [.bool false]) szB1 rfl (.tmp 15) (.tmp 13) rfl (.bool false) rfl (fun u hu => by rw [List.mem_singleton.1 hu]; rfl) C0.out rfl (by simp) (by first | rfl | go_simp) (by first | rfl | go_simp) ?_; intro w1 h1 g1; have D1 := Lib.hid (H.out.cells (s' := ⟨s.line, s.stops, false⟩) (v' := .slice A n cc) h1 g1 (.inl ⟨rfl, rfl⟩)); have S1 := Lib.hid g1.size; clear h1 g1)
    | (refine wpList_storeC (off := 0) (p := [.slice none 0 0]) szS rfl (.tmp 64) (.const (.slice none 0 0)) rfl (.slice none 0 0) rfl (fun u hu => by rw [List.mem_singleton.1 hu]; rfl) D1.out.1.pt.2.1 rfl (by simp) (by first | rfl | go_simp) (by first | rfl | go_simp) ?_; intro w2 h2 g2; have D2 := Lib.hid (D1.out.1.cells (v' := .slice none 0 0) (s' := ⟨[], _, _⟩) h2 g2 (.inr ⟨rfl, rfl⟩)); have S2 := Lib.hid (Nat.le_trans S1.out g2.size); clear h2 g2; have k1 : w2.cell? ⟨p, 1, none⟩ = some (.int .i64 (s.stops : Int)) := D2.out.1.pt.2.1.at_ rfl)
    | (refine wpList_storeC (off := 1) (p := [.int .i64 ((s.stops : Int) + 1)]) szI1 rfl (.tmp 71) (.tmp 69) rfl (.int .i64 ((s.stops : Int) + 1)) rfl (fun u hu => by rw [List.mem_singleton.1 hu]; rfl) D2.out.1.pt.2.1 rfl (by simp) (by first | rfl | go_simp) (by first | rfl | go_simp) ?_; intro w3 h3 g3; have D3 := Lib.hid (D2.out.1.cells (v' := .slice none 0 0) (s' := ⟨[], s.stops + 1, false⟩) h3 g3 (.inl ⟨rfl, rfl⟩)); have S3 := Lib.hid (Nat.le_trans S2.out g3.size); clear h3 g3)
    | (go_at_call 16; refine (show_any (D3.out.1.alloc _) (by have := S3.out; rw [World.size_alloc]; omega) (by have := HS.out; omega) _ _ 4 4 rfl (rb4 _ _ 94 67 13 10 94 67 13 10 rfl rfl rfl rfl) (by omega)).mono ?_; rintro e wz ⟨rfl, rz⟩; have RZ := Lib.hid rz; clear rz))
  go_end0
  exact ⟨rfl, PD.next D1.out (PD.next D2.out (PD.next D3.out (prA _ RZ.out)))⟩
set_option maxHeartbeats 1000000 in
theorem take_add (h : PX w base b2 p t v sv lv s sh ls) (ok : OkX w base b2 s sh ls) (c : UInt8) (hc : 32 ≤ c.toNat ∧ c.toNat < 127) :
    Calls Try.prog 15 #[.pointer (some ⟨p, 0, none⟩), .int .u8 (c.toNat : Int), .pointer (some ⟨t, 0, none⟩)] w fun e w' => e = .returned (.tuple #[]) ∧ PR w w' base b2 p t v sv lv (tkF s c).1 (sh ++ (tkF s c).2.1) (ls ++ (tkF s c).2.2) := by
  have hT : tkF s c = (⟨if s.line.length < 80 then s.line ++ [c] else s.line, s.stops, false⟩, (if s.line.length < 80 then [c] else [7]), []) := by unfold tkF; rw [if_neg (by omega), if_neg (by omega), if_neg (by omega), if_neg (by omega), if_pos (by omega)]; by_cases h8 : s.line.length < 80 <;> simp [h8]
  rw [hT]
  simp only [List.append_nil]
  obtain ⟨hb, hb1, hsh, hls, hl, hst⟩ := ok
  obtain ⟨A, cc, hv0, -, -⟩ := h.pt.2.2.shape
  obtain ⟨n, hn⟩ : ∃ n, s.line.length = n := ⟨_, rfl⟩
  have HN := Lib.hid hn
  rw [hn] at hv0
  subst hv0
  have HS := Lib.hid hsh
  have HLS := Lib.hid hls
  have HL := Lib.hid hl
  have k2 : w.cell? ⟨p, 2, none⟩ = some (.bool s.ret) := h.pt.2.1.at_ rfl
  have C0 := Lib.hid h.pt.2.1
  have H := Lib.hid h
  clear h hsh hls hl hT hn
  obtain ⟨LL, hLL⟩ : ∃ LL, (if s.line.length < 80 then s.line ++ [c] else s.line) = LL := ⟨_, rfl⟩
  obtain ⟨GG, hGG⟩ : ∃ GG, (if s.line.length < 80 then [c] else [7]) = GG := ⟨_, rfl⟩
  rw [hLL, hGG]
  have HLL := Lib.hid hLL
  have HGG := Lib.hid hGG
  clear hLL hGG
  obtain ⟨x, hx⟩ : ∃ x, (c.toNat : Int) = x := ⟨_, rfl⟩
  have e10 : (x == 10) = false := by rw [beq_eq_false_iff_ne]; omega
  have e13 : (x == 13) = false := by rw [beq_eq_false_iff_ne]; omega
  have e8 : (x == 8) = false := by rw [beq_eq_false_iff_ne]; omega
  have e127 : (x == 127) = false := by rw [beq_eq_false_iff_ne]; omega
  have e21 : (x == 21) = false := by rw [beq_eq_false_iff_ne]; omega
  have e3 : (x == 3) = false := by rw [beq_eq_false_iff_ne]; omega
  have l1 : (32 : Int) ≤ x := by omega
  have l2 : x < 127 := by omega
  have HX := Lib.hid hx
  rw [hx]
  clear hx hc
  go_enter Try.func15, Try.ntmps15
  go_wp2_with (first
    | (refine wpList_storeC (off := 2) (p := [.bool false]) szB1 rfl (.tmp 15) (.tmp 13) rfl (.bool false) rfl (fun u hu => by rw [List.mem_singleton.1 hu]; rfl) C0.out rfl (by simp) (by first | rfl | go_simp) (by first | rfl | go_simp) ?_; intro w1 h1 g1; have D1 := Lib.hid (H.out.cells (s' := ⟨s.line, s.stops, false⟩) (v' := .slice A n cc) h1 g1 (.inl ⟨rfl, rfl⟩)); have S1 := Lib.hid g1.size; clear h1 g1)
    | (go_at_call 18; rw [← HX.out]; refine (add_any D1.out.1 (by have := S1.out; omega) (by have := S1.out; omega) (by have := HS.out; omega) HL.out c).mono ?_; rintro e wz ⟨rfl, rz⟩; have RZ := Lib.hid rz; clear rz))
  go_end0
  exact ⟨rfl, PD.next D1.out (by have := RZ.out; rw [HLL.out, HGG.out] at this; exact this)⟩
set_option maxHeartbeats 1000000 in
theorem take_low (h : PX w base b2 p t v sv lv s sh ls) (ok : OkX w base b2 s sh ls) (c : UInt8) (hc : c.toNat < 32 ∧ c.toNat ≠ 10 ∧ c.toNat ≠ 13 ∧ c.toNat ≠ 8 ∧ c.toNat ≠ 21 ∧ c.toNat ≠ 3) :
    Calls Try.prog 15 #[.pointer (some ⟨p, 0, none⟩), .int .u8 (c.toNat : Int), .pointer (some ⟨t, 0, none⟩)] w fun e w' => e = .returned (.tuple #[]) ∧ PR w w' base b2 p t v sv lv (tkF s c).1 (sh ++ (tkF s c).2.1) (ls ++ (tkF s c).2.2) := by
  have hT : tkF s c = (⟨s.line, s.stops, false⟩, [], []) := by unfold tkF; rw [if_neg (by omega), if_neg (by omega), if_neg (by omega), if_neg (by omega), if_neg (by omega)]
  rw [hT]
  simp only [List.append_nil]
  obtain ⟨hb, hb1, hsh, hls, hl, hst⟩ := ok
  obtain ⟨A, cc, hv0, -, -⟩ := h.pt.2.2.shape
  obtain ⟨n, hn⟩ : ∃ n, s.line.length = n := ⟨_, rfl⟩
  have HN := Lib.hid hn
  rw [hn] at hv0
  subst hv0
  have HS := Lib.hid hsh
  have HLS := Lib.hid hls
  have HL := Lib.hid hl
  have k2 : w.cell? ⟨p, 2, none⟩ = some (.bool s.ret) := h.pt.2.1.at_ rfl
  have C0 := Lib.hid h.pt.2.1
  have H := Lib.hid h
  clear h hsh hls hl hT hn
  obtain ⟨x, hx⟩ : ∃ x, (c.toNat : Int) = x := ⟨_, rfl⟩
  have e10 : (x == 10) = false := by rw [beq_eq_false_iff_ne]; omega
  have e13 : (x == 13) = false := by rw [beq_eq_false_iff_ne]; omega
  have e8 : (x == 8) = false := by rw [beq_eq_false_iff_ne]; omega
  have e127 : (x == 127) = false := by rw [beq_eq_false_iff_ne]; omega
  have e21 : (x == 21) = false := by rw [beq_eq_false_iff_ne]; omega
  have e3 : (x == 3) = false := by rw [beq_eq_false_iff_ne]; omega
  have l1 : ¬ (32 : Int) ≤ x := by omega
  rw [hx]
  clear hx hc
  go_enter Try.func15, Try.ntmps15
  go_wp2_with (refine wpList_storeC (off := 2) (p := [.bool false]) szB1 rfl (.tmp 15) (.tmp 13) rfl (.bool false) rfl (fun u hu => by rw [List.mem_singleton.1 hu]; rfl) C0.out rfl (by simp) (by first | rfl | go_simp) (by first | rfl | go_simp) ?_; intro w1 h1 g1; have D1 := Lib.hid (H.out.cells (s' := ⟨s.line, s.stops, false⟩) (v' := .slice A n cc) h1 g1 (.inl ⟨rfl, rfl⟩)); have S1 := Lib.hid g1.size; clear h1 g1)
  go_end0
  exact ⟨rfl, _, _, _, D1.out⟩
set_option maxHeartbeats 1000000 in
theorem take_high (h : PX w base b2 p t v sv lv s sh ls) (ok : OkX w base b2 s sh ls) (c : UInt8) (hc : 127 < c.toNat) :
    Calls Try.prog 15 #[.pointer (some ⟨p, 0, none⟩), .int .u8 (c.toNat : Int), .pointer (some ⟨t, 0, none⟩)] w fun e w' => e = .returned (.tuple #[]) ∧ PR w w' base b2 p t v sv lv (tkF s c).1 (sh ++ (tkF s c).2.1) (ls ++ (tkF s c).2.2) := by
  have hT : tkF s c = (⟨s.line, s.stops, false⟩, [], []) := by unfold tkF; rw [if_neg (by omega), if_neg (by omega), if_neg (by omega), if_neg (by omega), if_neg (by omega)]
  rw [hT]
  simp only [List.append_nil]
  obtain ⟨hb, hb1, hsh, hls, hl, hst⟩ := ok
  obtain ⟨A, cc, hv0, -, -⟩ := h.pt.2.2.shape
  obtain ⟨n, hn⟩ : ∃ n, s.line.length = n := ⟨_, rfl⟩
  have HN := Lib.hid hn
  rw [hn] at hv0
  subst hv0
  have HS := Lib.hid hsh
  have HLS := Lib.hid hls
  have HL := Lib.hid hl
  have k2 : w.cell? ⟨p, 2, none⟩ = some (.bool s.ret) := h.pt.2.1.at_ rfl
  have C0 := Lib.hid h.pt.2.1
  have H := Lib.hid h
  clear h hsh hls hl hT hn
  obtain ⟨x, hx⟩ : ∃ x, (c.toNat : Int) = x := ⟨_, rfl⟩
  have e10 : (x == 10) = false := by rw [beq_eq_false_iff_ne]; omega
  have e13 : (x == 13) = false := by rw [beq_eq_false_iff_ne]; omega
  have e8 : (x == 8) = false := by rw [beq_eq_false_iff_ne]; omega
  have e127 : (x == 127) = false := by rw [beq_eq_false_iff_ne]; omega
  have e21 : (x == 21) = false := by rw [beq_eq_false_iff_ne]; omega
  have e3 : (x == 3) = false := by rw [beq_eq_false_iff_ne]; omega
  have l1 : (32 : Int) ≤ x := by omega
  have l2 : ¬ x < 127 := by omega
  rw [hx]
  clear hx hc
  go_enter Try.func15, Try.ntmps15
  go_wp2_with (refine wpList_storeC (off := 2) (p := [.bool false]) szB1 rfl (.tmp 15) (.tmp 13) rfl (.bool false) rfl (fun u hu => by rw [List.mem_singleton.1 hu]; rfl) C0.out rfl (by simp) (by first | rfl | go_simp) (by first | rfl | go_simp) ?_; intro w1 h1 g1; have D1 := Lib.hid (H.out.cells (s' := ⟨s.line, s.stops, false⟩) (v' := .slice A n cc) h1 g1 (.inl ⟨rfl, rfl⟩)); have S1 := Lib.hid g1.size; clear h1 g1)
  go_end0
  exact ⟨rfl, _, _, _, D1.out⟩
end
end Go.Proofs.Ytbkaabimafipoaa
