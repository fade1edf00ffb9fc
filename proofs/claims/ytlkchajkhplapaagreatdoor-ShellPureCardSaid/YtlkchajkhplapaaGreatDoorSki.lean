/- Run: a line is run, and remembered. -/
import Derived.Test.YtlkchajkhplapaaGreatDoorSkh
namespace Go.Proofs.YtlkchajkhplapaaGreatDoor
open Go.RowKit Go.Maps Go.WideMaps

section
variable {P : Program} {ops : Array Oper} {Q : Exit → Act → World → Prop} {md : Region.Mode} {S : World → Prop}
/-- What is asked of an operation that may come up. -/
def UpS (P : Program) (ops : Array Oper) (Q : Exit → Act → World → Prop) (md : Region.Mode) (S : World → Prop) (fuel : Nat) (listed : Array Bool) (i : Nat) (o : Oper) (a : Act) (w : World) : Prop :=
  ∀ K : Act → World → Prop, Shut (∀ a' w', S w' → (S w' → wpAnyH P md ops Q S fuel (listed.setIfInBounds i true) a' w') → K a' w') → o.wp P a w K Q
theorem upS_op {fuel : Nat} {listed : Array Bool} {i : Nat} {o : Oper} {a : Act} {w : World} (hi : ops[i]? = some o) (hw : Region.wanted o (yielded ops a.tmps) = true) (h : UpS P ops Q md S fuel listed i o a w) :
    wpOp P ops Q i (fun a' w' => S w' ∧ wpAnyH P md ops Q S fuel (listed.setIfInBounds i true) a' w') a w := by
  unfold wpOp
  rw [hi]
  simp only [hw, if_true]
  exact .inl (h _ fun a' w' hf hh => ⟨hf, hh hf⟩)
theorem helds_two {i j : Nat} {oi oj : Oper} {fuel : Nat} {listed : Array Bool} {a : Act} {w : World} (hr : Region.ready md ops listed = [i, j]) (hi : ops[i]? = some oi) (hj : ops[j]? = some oj)
    (hwi : Region.wanted oi (yielded ops a.tmps) = true) (hwj : Region.wanted oj (yielded ops a.tmps) = true)
    (h1 : UpS P ops Q md S fuel listed i oi a w) (h2 : UpS P ops Q md S fuel listed j oj a w) : wpAnyH P md ops Q S (fuel + 1) listed a w := by
  refine wpAnyH_all hr (by simp) fun k hk => ?_
  simp only [List.mem_cons, List.not_mem_nil, or_false] at hk
  rcases hk with rfl | rfl
  · exact upS_op hi hwi h1
  · exact upS_op hj hwj h2
end

theorem keepCell {w x : World} {p : Addr} {v : Value} (hg : w.grownBy x none) (h : w.cell? p = some v) : x.cell? p = some v :=
  (World.cell?_of_block (hg.block p.block (World.block_lt_of_cell? w p h) (fun e => by cases e))).trans h
section
variable {P : Program} {w : World} {o : Oper} {a : Act} {K : Act → World → Prop} {Q : Exit → Act → World → Prop} {d : Option Tmp} {t e : TypeId} {sz : Nat} {p zs : List Value}
theorem wp_load1 {ty : TypeId} {b off : Nat} {v : Value} (hag : ∀ w, (isAgg ty).run P w = .ok false w) (hd : o.dst = d) (x : Operand) (ho : o.op = .load ty x) (hc : w.cell? ⟨b, off, none⟩ = some v) (hx : a.eval x = .pointer (some ⟨b, off, none⟩)) (hk : K (a.put d v) w) : o.wp P a w K Q := by
  subst hd
  unfold Oper.wp execOp
  simp only [ho, hx]
  simp [go_sem, hag, hc]
  exact hk
theorem wp_lit1D (hd : o.dst = d) (ht : P.underlying t = some (.slice e)) (hi : (P.info? e).map (·.size) = some sz) (hz : ∀ w, (zeroValue e).run P w = .ok (.agg zs.toArray) w) (hp : p.length = sz) (hs : sz ≤ 1000) (hpos : 0 < sz) (x : Operand) (ho : o.op = .buildSlice t 1 #[(0, x)]) (hx : a.eval x = .agg p.toArray)
    (hk : K (a.put d (.slice (some ⟨w.heap.size, 0, none⟩) 1 1)) (w.alloc (.cells p.toArray e))) : o.wp P a w K Q := by
  subst hd
  exact wp_lit1 ht hi hz hp hs hpos x ho hx hk
theorem wp_appXD (hd : o.dst = d) (hT : RowT P t e sz) (s x : Operand)
    (ho : o.op = .call { callee := .builtin .append, args := #[s, x], argTypes := #[t, t] })
    {base : Nat} {v : Value} {Cs : List (List Value)} {b off c : Nat} (hown : RowX w base e sz v Cs)
    (hc : ∀ j u, p[j]? = some u → w.cell? ⟨b, off + j, none⟩ = some u) (hp : p.length = sz) (h1 : ∀ u ∈ p, u.oneCell' = true) (hs : a.eval s = v) (hx : a.eval x = .slice (some ⟨b, off, none⟩) 1 c) (hlen : Cs.length ≤ 1000000000) (hbase : base ≤ w.heap.size)
    (h : ∀ v' w', RowX w' base e sz v' (Cs ++ [p]) → w.grownBy w' v.ownBlock → K (a.put d v') w') : o.wp P a w K Q := by
  subst hd
  exact wp_appX hT s x ho hown hc hp h1 hs hx hlen hbase (fun v' w' h2 h3 _ => h v' w' h2 h3)
end
/-- What Run answers. -/
def RuR (w0 w : World) (sb tb mb : Nat) (M : Tr) (N : Nat) (who : ByteArray) (line : List UInt8) (e : Ending) (w' : World) : Prop :=
  ∃ ov ev out err code M', e = .returned (.agg #[ov, ev, .int .i64 (code : Nat)]) ∧ OB w' ov out ∧ OB w' ev err ∧ SG w0 w' sb tb mb M' (N + 1) ∧ SndM M' ∧ Kp [63, 126, 124] w w' ∧
    (¬ loudL line code → M' = M ∧ Kp [126, 124] w w') ∧ LineR (fun v l => OwnB w 0 5 v l) (fun v l => OwnB w' 0 5 v l) M who line out err code M'
theorem row_far {w0 w w' : World} {tb mb : Nat} {M : Tr} {v : Value} {Cs : List (List Value)} (h : TG w0 w tb mb M) (hr : RowX w w0.heap.size 126 3 v Cs) (hg : w.grownBy w' v.ownBlock) : TG w0 w' tb mb M ∧ Kp [126] w w' := by
  have hr' := hr.1.2
  rcases hr' with ⟨rfl, _⟩ | ⟨g, _, _, rfl, hb, hg', _⟩
  · have hg : w.grownBy w' none := hg
    exact ⟨h.below (below_of_none hg), Kp.none hg⟩
  · have hg : w.grownBy w' (some g) := hg
    refine ⟨h.far hb hg hg' (by decide) (by decide) (by decide), Kp.of ⟨_, hg, fun b e cs' t' sh' hb' => ?_⟩⟩
    injection e with e
    subst e
    have := hg'.symm.trans hb'
    injection this with this
    injection this with _ h2
    rw [← h2]; simp
theorem szLog : (Tryz.prog.info? 59).map (·.size) = some 1 := by kernel_rfl
/-- A store to a block that came behind leaves what was there. -/
theorem kp_new {ts : List TypeId} {w w1 w' : World} {g : Nat} (h : Kp ts w w1) (hw : w.heap.size ≤ g) (hg : w1.grownBy w' (some g)) : Kp ts w w' := by
  refine ⟨Nat.le_trans h.size hg.size, fun b cs' t sh hb ht => ?_⟩
  have h2 := h.blk _ _ _ _ hb ht
  have hlt := (Array.getElem?_eq_some_iff.1 hb).1
  exact (hg.block b (Array.getElem?_eq_some_iff.1 h2).1 (fun e => by injection e with e; omega)).trans h2
section
variable {w0 w : World} {sb tb mb N : Nat} {M : Tr}
set_option maxRecDepth 20000 in
set_option maxHeartbeats 8000000 in
theorem run_any (h : SG w0 w sb tb mb M N) (hS : SndM M) (hN : N ≤ 1000000) (htab : TI w0) (who : ByteArray) (hw : who.size ≤ 100) (s : ByteArray) (line : List UInt8) (hs : s.data.toList = line) (hl : line.length ≤ 1000) :
    Calls Tryz.prog 35 #[.pointer (some ⟨sb, 0, none⟩), .string who, .string s] w (RuR w0 w sb tb mb M N who line) := by
  have hsz : s.size ≤ 1000000 := by have : s.size = line.length := by rw [← hs]; rfl
                                    omega
  obtain ⟨wa, hwa⟩ : ∃ x, x = w.alloc (.cells #[.slice none 0 0, .slice none 0 0, .int .i64 0] 57) := ⟨_, rfl⟩
  have GA := Lib.hid (show w.grownBy wa none by rw [hwa]; exact grown_alloc _ _ _)
  have CA := Lib.hid (show CB wa w.heap.size 57 [.slice none 0 0, .slice none 0 0, .int .i64 0] by rw [hwa]; exact CB.new _ _ _)
  have HWA := Lib.hid hwa
  have HG := Lib.hid h
  have H0 := Lib.hid h.tg.gr.size
  have HN := Lib.hid hN
  have HSZ := Lib.hid (show who.size ≤ 100 ∧ s.size ≤ 1000 from ⟨hw, by have h1 : s.size = line.length := (by rw [← hs]; rfl); omega⟩)
  have RL := Lib.hid (runLine_any (h.made GA.out) hS htab who hw s line hs hl)
  have RA := Lib.hid (fun (W : World) (c : Int) => rapart_any W who s c (by omega) hsz)
  clear h hS hN htab hw hs hl hsz hwa
  go_enter Tryz.func35, Tryz.ntmps35
  go_wp2_with (first
    | (go_at_call 77
       rw [show w.alloc (.cells #[.slice none 0 0, .slice none 0 0, .int .i64 0] 57) = wa from HWA.out.symm]
       refine RL.out.mono ?_
       rintro e w1 ⟨ov, ev, out, err, code, M', rfl, ob, eb, sg, sn, kp, q, d⟩
       obtain ⟨A2, n2, c2, rfl, hl2⟩ := ob.open_
       obtain ⟨A3, n3, c3, rfl, hl3⟩ := eb.open_
       have O1 := Lib.hid ob
       have E1 := Lib.hid eb
       have S1' := Lib.hid sg
       have N1 := Lib.hid sn
       have K1 := Lib.hid ((Kp.none GA.out).trans kp)
       have Q1 := Lib.hid q
       have D1 := Lib.hid d
       have C1 := Lib.hid (show CB w1 w.heap.size 57 [.slice none 0 0, .slice none 0 0, .int .i64 0] from kp.blk _ _ _ _ CA.out (by decide))
       clear ob eb sg sn kp q d hl2 hl3
       have TK1 := Lib.hid True.intro)
    | (have hx := TK1; clear hx TK1
       refine wpList_storeC (off := 0) (p := [.slice A2 n2 c2, .slice A3 n3 c3, .int .i64 code]) outT.hi rfl (.tmp 7) (.tmp 11) rfl (.agg #[.slice A2 n2 c2, .slice A3 n3 c3, .int .i64 code]) rfl (out_one _ _ _ rfl rfl) (CB.new w1 57 [.slice none 0 0, .slice none 0 0, .int .i64 0]) rfl (Nat.le_refl _) (by first | rfl | go_simp) (by first | rfl | go_simp) ?_
       intro w3 h3 g3
       have g3 := none_new (grown_alloc w1 (.cells [.slice none 0 0, .slice none 0 0, .int .i64 0].toArray 57) none) g3 (Nat.le_refl _)
       have hc3 : CB w3 w1.heap.size 57 [.slice A2 n2 c2, .slice A3 n3 c3, .int .i64 code] := h3
       have G3 := Lib.hid g3
       have C3 := Lib.hid hc3
       have D3 := Lib.hid (C1.out.kept g3)
       have S3 := Lib.hid (S1'.out.made g3)
       obtain ⟨v, Cs, hcb, hrow, hcs⟩ := S3.out.sh
       obtain ⟨A4, c4, rfl, -, -⟩ := hrow.shape
       obtain ⟨n4, hn4⟩ : ∃ n4, Cs.length = n4 := ⟨_, rfl⟩
       rw [hn4] at hcb hrow
       have k0 := hcb.at_ (i := 1) (v := .slice A4 n4 c4) rfl
       have k1 := hc3.at_ (i := 2) (v := .int .i64 code) rfl
       have B3 := Lib.hid hcb
       have R3 := Lib.hid hrow
       have HCS := Lib.hid hcs
       clear h3 g3 hc3 hcb hrow hcs hn4))
  -- REGION
  have K0 := Lib.hid k0
  have KK1 := Lib.hid k1
  clear k0 k1
  have hG0 : w3.grownBy w3.drew none := grown_drew (World.grownBy.refl w3 none)
  refine helds_begin (fun W => W.heap[w1.heap.size]? = w3.heap[w1.heap.size]?) (by kernel_rfl) rfl (fun _ => ?_)
  refine helds_take (i := 0) (d := some 12) (v := ?vru_1) (by assumption) rfl rfl (by kernel_rfl) (fun _ _ _ h => h) ?yru_1 ?_; case yru_1 => (refine Or.inl ⟨rfl, fun wx hS => ?_⟩; go_simp; try with_reducible rfl)
  try simp only [Act.put, List.setIfInBounds_toArray, List.set_cons_zero, List.set_cons_succ]
  refine helds_take (i := 1) (d := some 13) (v := ?vru_2) (by assumption) rfl rfl (by kernel_rfl) (fun _ _ _ h => h) ?yru_2 ?_; case yru_2 => (refine Or.inl ⟨rfl, fun wx hS => ?_⟩; go_simp; try with_reducible rfl)
  try simp only [Act.put, List.setIfInBounds_toArray, List.set_cons_zero, List.set_cons_succ]
  refine helds_take (i := 2) (d := some 14) (v := ?vru_3) (by assumption) rfl rfl (by kernel_rfl) (fun _ _ _ h => h) ?yru_3 ?_; case yru_3 => (refine Or.inl ⟨rfl, fun wx hS => ?_⟩; go_simp; try with_reducible rfl)
  try simp only [Act.put, List.setIfInBounds_toArray, List.set_cons_zero, List.set_cons_succ]
  refine helds_take (i := 3) (d := some 15) (v := ?vru_4) (by assumption) rfl rfl (by kernel_rfl) (fun _ _ _ h => h) ?yru_4 ?_; case yru_4 => (refine Or.inl ⟨rfl, fun wx hS => ?_⟩; go_simp; try with_reducible rfl)
  try simp only [Act.put, List.setIfInBounds_toArray, List.set_cons_zero, List.set_cons_succ]
  refine helds_take (i := 5) (d := some 17) (v := ?vru_5) (by assumption) rfl rfl (by kernel_rfl) (fun _ _ _ h => h) ?yru_5 ?_; case yru_5 => (refine Or.inl ⟨rfl, fun wx hS => ?_⟩; go_simp; try with_reducible rfl)
  try simp only [Act.put, List.setIfInBounds_toArray, List.set_cons_zero, List.set_cons_succ]
  refine helds_take (i := 6) (d := some 18) (v := ?vru_6) (by assumption) rfl rfl (by kernel_rfl) (fun _ _ _ h => h) ?yru_6 ?_; case yru_6 => (refine Or.inl ⟨rfl, fun wx hS => ?_⟩; go_simp; try with_reducible rfl)
  try simp only [Act.put, List.setIfInBounds_toArray, List.set_cons_zero, List.set_cons_succ]
  refine helds_take (i := 7) (d := some 19) (v := ?vru_7) (by assumption) rfl rfl (by kernel_rfl) (fun _ _ _ h => h) ?yru_7 ?_; case yru_7 => (refine Or.inl ⟨rfl, fun wx hS => ?_⟩; go_simp; try with_reducible rfl)
  try simp only [Act.put, List.setIfInBounds_toArray, List.set_cons_zero, List.set_cons_succ]
  refine helds_take (i := 8) (d := some 20) (v := ?vru_8) (by assumption) rfl rfl (by kernel_rfl) (fun _ _ _ h => h) ?yru_8 ?_; case yru_8 => (refine Or.inl ⟨rfl, fun wx hS => ?_⟩; have q := (World.cell?_of_block (show wx.heap[(⟨w1.heap.size, 2, none⟩ : Addr).block]? = w3.heap[(⟨w1.heap.size, 2, none⟩ : Addr).block]? from hS)).trans KK1.out; go_simp; try with_reducible rfl)
  try simp only [Act.put, List.setIfInBounds_toArray, List.set_cons_zero, List.set_cons_succ]
  refine helds_take (i := 9) (d := some 21) (v := ?vru_9) (by assumption) rfl rfl (by kernel_rfl) (fun _ _ _ h => h) ?yru_9 ?_; case yru_9 => (refine Or.inl ⟨rfl, fun wx hS => ?_⟩; go_simp; try with_reducible rfl)
  try simp only [Act.put, List.setIfInBounds_toArray, List.set_cons_zero, List.set_cons_succ]
  refine helds_two (i := 4) (j := 10) (by kernel_rfl) rfl rfl rfl rfl (fun K hK => ?_) (fun K hK => ?_)
  · refine wp_load1 (d := some 16) (b := sb) (off := 1) (v := .slice A4 n4 c4) (fun w => by kernel_rfl) rfl (.tmp 15) rfl (keepCell (w := w3) (by assumption) K0.out) (by first | rfl | go_simp) ?_
    refine hK.out _ _ (by assumption) (fun _ => ?_)
    clear hK K
    try simp only [Act.put, List.setIfInBounds_toArray, List.set_cons_zero, List.set_cons_succ]
    refine helds_one (i := 10) rfl (by kernel_rfl) rfl (fun K hK => ?_)
    refine wp_callU (d := some 22) (f := 78) (args := #[.agg #[.string who, .string s, .int .i64 code]]) rfl (by first | rfl | go_simp) ?_
    refine (RA.out _ code).mono ?_
    rintro e w4 ⟨rfl, g4⟩
    have hG4 : w3.grownBy w4 none := grown_trans' (grown_drew (World.grownBy.refl w3 none)) g4
    have hS4 : w4.heap[w1.heap.size]? = w3.heap[w1.heap.size]? := hG4.block _ C3.out.lt (by simp)
    clear g4
    refine ⟨_, rfl, ?_⟩
    refine hK.out _ _ (by assumption) (fun _ => ?_)
    clear hK K
    try simp only [Act.put, List.setIfInBounds_toArray, List.set_cons_zero, List.set_cons_succ]
    refine helds_one (i := 11) rfl (by kernel_rfl) rfl (fun K hK => ?_)
    refine wp_lit1D (d := some 23) rfl (p := ranC who s code) Tryz.underlying59 aggRan.hi zeroRan_run rfl (by omega) (by omega) (.tmp 22) rfl (by first | rfl | (go_simp; rfl)) ?_
    have hG5 : w3.grownBy (w4.alloc (.cells (ranC who s code).toArray 126)) none := grown_trans' hG4 (grown_alloc _ _ _)
    have hS5 : (w4.alloc (.cells (ranC who s code).toArray 126)).heap[w1.heap.size]? = w3.heap[w1.heap.size]? := hG5.block _ C3.out.lt (by simp)
    refine hK.out _ _ (by assumption) (fun _ => ?_)
    clear hK K
    try simp only [Act.put, List.setIfInBounds_toArray, List.set_cons_zero, List.set_cons_succ]
    refine helds_one (i := 12) rfl (by kernel_rfl) rfl (fun K hK => ?_)
    refine wp_appXD (d := some 24) rfl rowRan (.tmp 16) (.tmp 23) rfl (p := ranC who s code) (b := w4.heap.size) (off := 0) (c := 1) (R3.out.none hG5) (fun j u hj => by have := (CB.new w4 126 (ranC who s code)).at_ hj; rwa [Nat.zero_add]) rfl (ran_one _ _ _) (by first | rfl | go_simp) (by first | rfl | go_simp) (by have := HCS.out.1; have := HN.out; omega) (by have := hG5.size; have := S3.out.tg.gr.size; omega) ?_
    intro v6 w6 r6 g6
    obtain ⟨tg6, kp6⟩ := row_far (S3.out.made hG5).tg (R3.out.none hG5) g6
    obtain ⟨A6, c6, rfl, -, -⟩ := r6.shape
    obtain ⟨n6, hn6⟩ : ∃ n6, (Cs ++ [ranC who s code]).length = n6 := ⟨_, rfl⟩
    rw [hn6] at r6 ⊢
    have KP6 := Lib.hid ((Kp.none (ts := [126]) hG5).trans kp6)
    have hS6 : w6.heap[w1.heap.size]? = w3.heap[w1.heap.size]? := (KP6.out.blk _ _ _ _ C3.out (by decide)).trans C3.out.symm
    have R6 := Lib.hid r6
    have T6 := Lib.hid tg6
    clear r6 tg6 kp6 g6 hn6
    refine hK.out _ _ (by assumption) (fun _ => ?_)
    clear hK K
    try simp only [Act.put, List.setIfInBounds_toArray, List.set_cons_zero, List.set_cons_succ]
    refine helds_take (i := 13) (d := some 25) (v := ?vru_10) (by assumption) rfl rfl (by kernel_rfl) (fun _ _ _ h => h) ?yru_10 ?_; case yru_10 => (refine Or.inl ⟨rfl, fun wx hS => ?_⟩; go_simp; try with_reducible rfl)
    try simp only [Act.put, List.setIfInBounds_toArray, List.set_cons_zero, List.set_cons_succ]
    refine helds_take (i := 14) (d := some 26) (v := ?vru_11) (by assumption) rfl rfl (by kernel_rfl) (fun _ _ _ h => h) ?yru_11 ?_; case yru_11 => (refine Or.inl ⟨rfl, fun wx hS => ?_⟩; go_simp; try with_reducible rfl)
    try simp only [Act.put, List.setIfInBounds_toArray, List.set_cons_zero, List.set_cons_succ]
    refine helds_one (i := 15) rfl (by kernel_rfl) rfl (fun K hK => ?_)
    refine wp_storeC (d := none) (off := 1) (p := [.slice A6 n6 c6]) szLog rfl (.tmp 26) (.tmp 24) rfl (.slice A6 n6 c6) rfl (by intro u hu; rw [List.mem_singleton.1 hu]; rfl) (show CB w6 sb 124 [.pointer (some ⟨tb, 0, none⟩), .slice A4 n4 c4] from KP6.out.blk _ _ _ _ B3.out (by decide)) rfl (by simp) (by first | rfl | go_simp) (by first | rfl | go_simp) ?_
    intro w7 h7 g7
    have KP7 := Lib.hid (kp_one (show CB w6 sb 124 [.pointer (some ⟨tb, 0, none⟩), .slice A4 n4 c4] from KP6.out.blk _ _ _ _ B3.out (by decide)) g7)
    have hS7 : w7.heap[w1.heap.size]? = w3.heap[w1.heap.size]? := (KP7.out.blk _ _ _ _ (show CB w6 w1.heap.size 57 [.slice A2 n2 c2, .slice A3 n3 c3, .int .i64 code] from KP6.out.blk _ _ _ _ C3.out (by decide)) (by decide)).trans C3.out.symm
    have SG7 := Lib.hid (show SG w0 w7 sb tb mb M' (N + 1) from ⟨T6.out.far S3.out.bs g7 (KP6.out.blk _ _ _ _ B3.out (by decide)) (by decide) (by decide) (by decide), S3.out.bs, _, _, h7, ⟨KP7.out.own R6.out.1 (by decide), R6.out.2⟩, by rw [List.length_append, HCS.out.1]; rfl, fun c hc => by
      rcases List.mem_append.1 hc with hc | hc
      · exact HCS.out.2 c hc
      · rw [List.mem_singleton.1 hc]; exact ⟨who, s, code, rfl, by have := HSZ.out.1; omega, HSZ.out.2⟩⟩)
    clear h7 g7
    refine hK.out _ _ (by assumption) (fun _ => ?_)
    clear hK K
    try simp only [Act.put]
    refine held_end (by kernel_rfl) ?_ _
    have C7 := Lib.hid (show CB w7 w1.heap.size 57 [.slice A2 n2 c2, .slice A3 n3 c3, .int .i64 code] from hS7.trans C3.out)
    have Z7 := Lib.hid (show CB w7 w.heap.size 57 [.slice none 0 0, .slice none 0 0, .int .i64 0] from KP7.out.blk _ _ _ _ (show CB w6 w.heap.size 57 [.slice none 0 0, .slice none 0 0, .int .i64 0] from KP6.out.blk _ _ _ _ D3.out (by decide)) (by decide))
    go_wp2_with (first
      | (refine wpList_loadC (off := 0) (p := [.slice A2 n2 c2, .slice A3 n3 c3, .int .i64 code]) outT rfl (.tmp 7) rfl C7.out rfl (Nat.le_refl _) (by first | rfl | go_simp) ?_)
      | (refine wpList_storeC (off := 0) (p := [.slice A2 n2 c2, .slice A3 n3 c3, .int .i64 code]) outT.hi rfl (.tmp 6) (.tmp 27) rfl (.agg #[.slice A2 n2 c2, .slice A3 n3 c3, .int .i64 code]) rfl (out_one _ _ _ rfl rfl) Z7.out rfl (Nat.le_refl _) (by first | rfl | go_simp) (by first | rfl | go_simp) ?_
         intro w8 h8 g8
         have C8 := Lib.hid (show CB w8 w.heap.size 57 [.slice A2 n2 c2, .slice A3 n3 c3, .int .i64 code] from h8)
         have G8 := Lib.hid g8
         clear h8 g8))
    refine bodyPost_ret (results_C1 rfl _ outT C8.out rfl (by first | rfl | go_simp)) rfl ?_
    have k37 := ((Kp.none (ts := [63, 126, 124]) G3.out).trans (KP6.out.more (by simp))).trans (KP7.out.more (by simp))
    have k37' := ((Kp.none (ts := [126, 124]) G3.out).trans (KP6.out.more (by simp))).trans (KP7.out.more (by simp))
    have k8 := kp_one Z7.out G8.out
    refine ⟨_, _, out, err, code, M', rfl, k8.ob (k37.ob O1.out (by decide)) (by decide), k8.ob (k37.ob E1.out (by decide)) (by decide), SG7.out.far Z7.out H0.out G8.out, N1.out, kp_new ((K1.out.more (by simp)).trans k37) (Nat.le_refl _) G8.out, fun hq => ?_, D1.out.mono (fun v l e => e.below (below_of_none GA.out)) (fun v l e => k8.own (k37.own e (by decide)) (by decide))⟩
    have hq1 := Q1.out hq
    exact ⟨hq1.1, kp_new ((Kp.none (grown_trans' GA.out hq1.2)).trans k37') (Nat.le_refl _) G8.out⟩
  · refine wp_callU (d := some 22) (f := 78) (args := #[.agg #[.string who, .string s, .int .i64 code]]) rfl (by first | rfl | go_simp) ?_
    refine (RA.out _ code).mono ?_
    rintro e w4 ⟨rfl, g4⟩
    have hG4 : w3.grownBy w4 none := grown_trans' (grown_drew (World.grownBy.refl w3 none)) g4
    have hS4 : w4.heap[w1.heap.size]? = w3.heap[w1.heap.size]? := hG4.block _ C3.out.lt (by simp)
    clear g4
    refine ⟨_, rfl, ?_⟩
    refine hK.out _ _ (by assumption) (fun _ => ?_)
    clear hK K
    try simp only [Act.put, List.setIfInBounds_toArray, List.set_cons_zero, List.set_cons_succ]
    refine helds_two (i := 4) (j := 11) (by kernel_rfl) rfl rfl rfl rfl (fun K hK => ?_) (fun K hK => ?_)
    · refine wp_load1 (d := some 16) (b := sb) (off := 1) (v := .slice A4 n4 c4) (fun w => by kernel_rfl) rfl (.tmp 15) rfl (keepCell (w := w3) (by assumption) K0.out) (by first | rfl | go_simp) ?_
      refine hK.out _ _ (by assumption) (fun _ => ?_)
      clear hK K
      try simp only [Act.put, List.setIfInBounds_toArray, List.set_cons_zero, List.set_cons_succ]
      refine helds_one (i := 11) rfl (by kernel_rfl) rfl (fun K hK => ?_)
      refine wp_lit1D (d := some 23) rfl (p := ranC who s code) Tryz.underlying59 aggRan.hi zeroRan_run rfl (by omega) (by omega) (.tmp 22) rfl (by first | rfl | (go_simp; rfl)) ?_
      have hG5 : w3.grownBy (w4.alloc (.cells (ranC who s code).toArray 126)) none := grown_trans' hG4 (grown_alloc _ _ _)
      have hS5 : (w4.alloc (.cells (ranC who s code).toArray 126)).heap[w1.heap.size]? = w3.heap[w1.heap.size]? := hG5.block _ C3.out.lt (by simp)
      refine hK.out _ _ (by assumption) (fun _ => ?_)
      clear hK K
      try simp only [Act.put, List.setIfInBounds_toArray, List.set_cons_zero, List.set_cons_succ]
      refine helds_one (i := 12) rfl (by kernel_rfl) rfl (fun K hK => ?_)
      refine wp_appXD (d := some 24) rfl rowRan (.tmp 16) (.tmp 23) rfl (p := ranC who s code) (b := w4.heap.size) (off := 0) (c := 1) (R3.out.none hG5) (fun j u hj => by have := (CB.new w4 126 (ranC who s code)).at_ hj; rwa [Nat.zero_add]) rfl (ran_one _ _ _) (by first | rfl | go_simp) (by first | rfl | go_simp) (by have := HCS.out.1; have := HN.out; omega) (by have := hG5.size; have := S3.out.tg.gr.size; omega) ?_
      intro v6 w6 r6 g6
      obtain ⟨tg6, kp6⟩ := row_far (S3.out.made hG5).tg (R3.out.none hG5) g6
      obtain ⟨A6, c6, rfl, -, -⟩ := r6.shape
      obtain ⟨n6, hn6⟩ : ∃ n6, (Cs ++ [ranC who s code]).length = n6 := ⟨_, rfl⟩
      rw [hn6] at r6 ⊢
      have KP6 := Lib.hid ((Kp.none (ts := [126]) hG5).trans kp6)
      have hS6 : w6.heap[w1.heap.size]? = w3.heap[w1.heap.size]? := (KP6.out.blk _ _ _ _ C3.out (by decide)).trans C3.out.symm
      have R6 := Lib.hid r6
      have T6 := Lib.hid tg6
      clear r6 tg6 kp6 g6 hn6
      refine hK.out _ _ (by assumption) (fun _ => ?_)
      clear hK K
      try simp only [Act.put, List.setIfInBounds_toArray, List.set_cons_zero, List.set_cons_succ]
      refine helds_take (i := 13) (d := some 25) (v := ?vru_12) (by assumption) rfl rfl (by kernel_rfl) (fun _ _ _ h => h) ?yru_12 ?_; case yru_12 => (refine Or.inl ⟨rfl, fun wx hS => ?_⟩; go_simp; try with_reducible rfl)
      try simp only [Act.put, List.setIfInBounds_toArray, List.set_cons_zero, List.set_cons_succ]
      refine helds_take (i := 14) (d := some 26) (v := ?vru_13) (by assumption) rfl rfl (by kernel_rfl) (fun _ _ _ h => h) ?yru_13 ?_; case yru_13 => (refine Or.inl ⟨rfl, fun wx hS => ?_⟩; go_simp; try with_reducible rfl)
      try simp only [Act.put, List.setIfInBounds_toArray, List.set_cons_zero, List.set_cons_succ]
      refine helds_one (i := 15) rfl (by kernel_rfl) rfl (fun K hK => ?_)
      refine wp_storeC (d := none) (off := 1) (p := [.slice A6 n6 c6]) szLog rfl (.tmp 26) (.tmp 24) rfl (.slice A6 n6 c6) rfl (by intro u hu; rw [List.mem_singleton.1 hu]; rfl) (show CB w6 sb 124 [.pointer (some ⟨tb, 0, none⟩), .slice A4 n4 c4] from KP6.out.blk _ _ _ _ B3.out (by decide)) rfl (by simp) (by first | rfl | go_simp) (by first | rfl | go_simp) ?_
      intro w7 h7 g7
      have KP7 := Lib.hid (kp_one (show CB w6 sb 124 [.pointer (some ⟨tb, 0, none⟩), .slice A4 n4 c4] from KP6.out.blk _ _ _ _ B3.out (by decide)) g7)
      have hS7 : w7.heap[w1.heap.size]? = w3.heap[w1.heap.size]? := (KP7.out.blk _ _ _ _ (show CB w6 w1.heap.size 57 [.slice A2 n2 c2, .slice A3 n3 c3, .int .i64 code] from KP6.out.blk _ _ _ _ C3.out (by decide)) (by decide)).trans C3.out.symm
      have SG7 := Lib.hid (show SG w0 w7 sb tb mb M' (N + 1) from ⟨T6.out.far S3.out.bs g7 (KP6.out.blk _ _ _ _ B3.out (by decide)) (by decide) (by decide) (by decide), S3.out.bs, _, _, h7, ⟨KP7.out.own R6.out.1 (by decide), R6.out.2⟩, by rw [List.length_append, HCS.out.1]; rfl, fun c hc => by
        rcases List.mem_append.1 hc with hc | hc
        · exact HCS.out.2 c hc
        · rw [List.mem_singleton.1 hc]; exact ⟨who, s, code, rfl, by have := HSZ.out.1; omega, HSZ.out.2⟩⟩)
      clear h7 g7
      refine hK.out _ _ (by assumption) (fun _ => ?_)
      clear hK K
      try simp only [Act.put]
      refine held_end (by kernel_rfl) ?_ _
      have C7 := Lib.hid (show CB w7 w1.heap.size 57 [.slice A2 n2 c2, .slice A3 n3 c3, .int .i64 code] from hS7.trans C3.out)
      have Z7 := Lib.hid (show CB w7 w.heap.size 57 [.slice none 0 0, .slice none 0 0, .int .i64 0] from KP7.out.blk _ _ _ _ (show CB w6 w.heap.size 57 [.slice none 0 0, .slice none 0 0, .int .i64 0] from KP6.out.blk _ _ _ _ D3.out (by decide)) (by decide))
      go_wp2_with (first
        | (refine wpList_loadC (off := 0) (p := [.slice A2 n2 c2, .slice A3 n3 c3, .int .i64 code]) outT rfl (.tmp 7) rfl C7.out rfl (Nat.le_refl _) (by first | rfl | go_simp) ?_)
        | (refine wpList_storeC (off := 0) (p := [.slice A2 n2 c2, .slice A3 n3 c3, .int .i64 code]) outT.hi rfl (.tmp 6) (.tmp 27) rfl (.agg #[.slice A2 n2 c2, .slice A3 n3 c3, .int .i64 code]) rfl (out_one _ _ _ rfl rfl) Z7.out rfl (Nat.le_refl _) (by first | rfl | go_simp) (by first | rfl | go_simp) ?_
           intro w8 h8 g8
           have C8 := Lib.hid (show CB w8 w.heap.size 57 [.slice A2 n2 c2, .slice A3 n3 c3, .int .i64 code] from h8)
           have G8 := Lib.hid g8
           clear h8 g8))
      refine bodyPost_ret (results_C1 rfl _ outT C8.out rfl (by first | rfl | go_simp)) rfl ?_
      have k37 := ((Kp.none (ts := [63, 126, 124]) G3.out).trans (KP6.out.more (by simp))).trans (KP7.out.more (by simp))
      have k37' := ((Kp.none (ts := [126, 124]) G3.out).trans (KP6.out.more (by simp))).trans (KP7.out.more (by simp))
      have k8 := kp_one Z7.out G8.out
      refine ⟨_, _, out, err, code, M', rfl, k8.ob (k37.ob O1.out (by decide)) (by decide), k8.ob (k37.ob E1.out (by decide)) (by decide), SG7.out.far Z7.out H0.out G8.out, N1.out, kp_new ((K1.out.more (by simp)).trans k37) (Nat.le_refl _) G8.out, fun hq => ?_, D1.out.mono (fun v l e => e.below (below_of_none GA.out)) (fun v l e => k8.own (k37.own e (by decide)) (by decide))⟩
      have hq1 := Q1.out hq
      exact ⟨hq1.1, kp_new ((Kp.none (grown_trans' GA.out hq1.2)).trans k37') (Nat.le_refl _) G8.out⟩
    · refine wp_lit1D (d := some 23) rfl (p := ranC who s code) Tryz.underlying59 aggRan.hi zeroRan_run rfl (by omega) (by omega) (.tmp 22) rfl (by first | rfl | (go_simp; rfl)) ?_
      have hG5 : w3.grownBy (w4.alloc (.cells (ranC who s code).toArray 126)) none := grown_trans' hG4 (grown_alloc _ _ _)
      have hS5 : (w4.alloc (.cells (ranC who s code).toArray 126)).heap[w1.heap.size]? = w3.heap[w1.heap.size]? := hG5.block _ C3.out.lt (by simp)
      refine hK.out _ _ (by assumption) (fun _ => ?_)
      clear hK K
      try simp only [Act.put, List.setIfInBounds_toArray, List.set_cons_zero, List.set_cons_succ]
      refine helds_one (i := 4) rfl (by kernel_rfl) rfl (fun K hK => ?_)
      refine wp_load1 (d := some 16) (b := sb) (off := 1) (v := .slice A4 n4 c4) (fun w => by kernel_rfl) rfl (.tmp 15) rfl (keepCell (w := w3) (by assumption) K0.out) (by first | rfl | go_simp) ?_
      refine hK.out _ _ (by assumption) (fun _ => ?_)
      clear hK K
      try simp only [Act.put, List.setIfInBounds_toArray, List.set_cons_zero, List.set_cons_succ]
      refine helds_one (i := 12) rfl (by kernel_rfl) rfl (fun K hK => ?_)
      refine wp_appXD (d := some 24) rfl rowRan (.tmp 16) (.tmp 23) rfl (p := ranC who s code) (b := w4.heap.size) (off := 0) (c := 1) (R3.out.none hG5) (fun j u hj => by have := (CB.new w4 126 (ranC who s code)).at_ hj; rwa [Nat.zero_add]) rfl (ran_one _ _ _) (by first | rfl | go_simp) (by first | rfl | go_simp) (by have := HCS.out.1; have := HN.out; omega) (by have := hG5.size; have := S3.out.tg.gr.size; omega) ?_
      intro v6 w6 r6 g6
      obtain ⟨tg6, kp6⟩ := row_far (S3.out.made hG5).tg (R3.out.none hG5) g6
      obtain ⟨A6, c6, rfl, -, -⟩ := r6.shape
      obtain ⟨n6, hn6⟩ : ∃ n6, (Cs ++ [ranC who s code]).length = n6 := ⟨_, rfl⟩
      rw [hn6] at r6 ⊢
      have KP6 := Lib.hid ((Kp.none (ts := [126]) hG5).trans kp6)
      have hS6 : w6.heap[w1.heap.size]? = w3.heap[w1.heap.size]? := (KP6.out.blk _ _ _ _ C3.out (by decide)).trans C3.out.symm
      have R6 := Lib.hid r6
      have T6 := Lib.hid tg6
      clear r6 tg6 kp6 g6 hn6
      refine hK.out _ _ (by assumption) (fun _ => ?_)
      clear hK K
      try simp only [Act.put, List.setIfInBounds_toArray, List.set_cons_zero, List.set_cons_succ]
      refine helds_take (i := 13) (d := some 25) (v := ?vru_14) (by assumption) rfl rfl (by kernel_rfl) (fun _ _ _ h => h) ?yru_14 ?_; case yru_14 => (refine Or.inl ⟨rfl, fun wx hS => ?_⟩; go_simp; try with_reducible rfl)
      try simp only [Act.put, List.setIfInBounds_toArray, List.set_cons_zero, List.set_cons_succ]
      refine helds_take (i := 14) (d := some 26) (v := ?vru_15) (by assumption) rfl rfl (by kernel_rfl) (fun _ _ _ h => h) ?yru_15 ?_; case yru_15 => (refine Or.inl ⟨rfl, fun wx hS => ?_⟩; go_simp; try with_reducible rfl)
      try simp only [Act.put, List.setIfInBounds_toArray, List.set_cons_zero, List.set_cons_succ]
      refine helds_one (i := 15) rfl (by kernel_rfl) rfl (fun K hK => ?_)
      refine wp_storeC (d := none) (off := 1) (p := [.slice A6 n6 c6]) szLog rfl (.tmp 26) (.tmp 24) rfl (.slice A6 n6 c6) rfl (by intro u hu; rw [List.mem_singleton.1 hu]; rfl) (show CB w6 sb 124 [.pointer (some ⟨tb, 0, none⟩), .slice A4 n4 c4] from KP6.out.blk _ _ _ _ B3.out (by decide)) rfl (by simp) (by first | rfl | go_simp) (by first | rfl | go_simp) ?_
      intro w7 h7 g7
      have KP7 := Lib.hid (kp_one (show CB w6 sb 124 [.pointer (some ⟨tb, 0, none⟩), .slice A4 n4 c4] from KP6.out.blk _ _ _ _ B3.out (by decide)) g7)
      have hS7 : w7.heap[w1.heap.size]? = w3.heap[w1.heap.size]? := (KP7.out.blk _ _ _ _ (show CB w6 w1.heap.size 57 [.slice A2 n2 c2, .slice A3 n3 c3, .int .i64 code] from KP6.out.blk _ _ _ _ C3.out (by decide)) (by decide)).trans C3.out.symm
      have SG7 := Lib.hid (show SG w0 w7 sb tb mb M' (N + 1) from ⟨T6.out.far S3.out.bs g7 (KP6.out.blk _ _ _ _ B3.out (by decide)) (by decide) (by decide) (by decide), S3.out.bs, _, _, h7, ⟨KP7.out.own R6.out.1 (by decide), R6.out.2⟩, by rw [List.length_append, HCS.out.1]; rfl, fun c hc => by
        rcases List.mem_append.1 hc with hc | hc
        · exact HCS.out.2 c hc
        · rw [List.mem_singleton.1 hc]; exact ⟨who, s, code, rfl, by have := HSZ.out.1; omega, HSZ.out.2⟩⟩)
      clear h7 g7
      refine hK.out _ _ (by assumption) (fun _ => ?_)
      clear hK K
      try simp only [Act.put]
      refine held_end (by kernel_rfl) ?_ _
      have C7 := Lib.hid (show CB w7 w1.heap.size 57 [.slice A2 n2 c2, .slice A3 n3 c3, .int .i64 code] from hS7.trans C3.out)
      have Z7 := Lib.hid (show CB w7 w.heap.size 57 [.slice none 0 0, .slice none 0 0, .int .i64 0] from KP7.out.blk _ _ _ _ (show CB w6 w.heap.size 57 [.slice none 0 0, .slice none 0 0, .int .i64 0] from KP6.out.blk _ _ _ _ D3.out (by decide)) (by decide))
      go_wp2_with (first
        | (refine wpList_loadC (off := 0) (p := [.slice A2 n2 c2, .slice A3 n3 c3, .int .i64 code]) outT rfl (.tmp 7) rfl C7.out rfl (Nat.le_refl _) (by first | rfl | go_simp) ?_)
        | (refine wpList_storeC (off := 0) (p := [.slice A2 n2 c2, .slice A3 n3 c3, .int .i64 code]) outT.hi rfl (.tmp 6) (.tmp 27) rfl (.agg #[.slice A2 n2 c2, .slice A3 n3 c3, .int .i64 code]) rfl (out_one _ _ _ rfl rfl) Z7.out rfl (Nat.le_refl _) (by first | rfl | go_simp) (by first | rfl | go_simp) ?_
           intro w8 h8 g8
           have C8 := Lib.hid (show CB w8 w.heap.size 57 [.slice A2 n2 c2, .slice A3 n3 c3, .int .i64 code] from h8)
           have G8 := Lib.hid g8
           clear h8 g8))
      refine bodyPost_ret (results_C1 rfl _ outT C8.out rfl (by first | rfl | go_simp)) rfl ?_
      have k37 := ((Kp.none (ts := [63, 126, 124]) G3.out).trans (KP6.out.more (by simp))).trans (KP7.out.more (by simp))
      have k37' := ((Kp.none (ts := [126, 124]) G3.out).trans (KP6.out.more (by simp))).trans (KP7.out.more (by simp))
      have k8 := kp_one Z7.out G8.out
      refine ⟨_, _, out, err, code, M', rfl, k8.ob (k37.ob O1.out (by decide)) (by decide), k8.ob (k37.ob E1.out (by decide)) (by decide), SG7.out.far Z7.out H0.out G8.out, N1.out, kp_new ((K1.out.more (by simp)).trans k37) (Nat.le_refl _) G8.out, fun hq => ?_, D1.out.mono (fun v l e => e.below (below_of_none GA.out)) (fun v l e => k8.own (k37.own e (by decide)) (by decide))⟩
      have hq1 := Q1.out hq
      exact ⟨hq1.1, kp_new ((Kp.none (grown_trans' GA.out hq1.2)).trans k37') (Nat.le_refl _) G8.out⟩
end
end Go.Proofs.YtlkchajkhplapaaGreatDoor
