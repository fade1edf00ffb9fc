/- come. -/
import Derived.Test.YtlkchajkhplapaaGreatDoorTrh
import Derived.StringKeys
namespace Go.Proofs.YtlkchajkhplapaaGreatDoor
open Go.RowKit Go.Shelf Go.Maps Go.WideMaps
attribute [local go_sem] Oper.semAt_some

theorem keyedS : Keyed Tryz.prog 9 := string_keyed Tryz.underlying9
theorem TR.below {w w' : World} {tb mb B : Nat} {M : List (List UInt8 × Nd)} (h : TR w tb mb M) (hb : Below B w w') (h1 : tb < B) (h2 : mb < B) (h3 : ∀ p n, (p, n) ∈ M → n.blk < B) : TR w' tb mb M := by
  refine ⟨(hb.block tb h1).trans h.top, ?_, fun p n hp => ⟨(h.nodes p n hp).1.below hb (h3 p n hp), (h.nodes p n hp).2⟩⟩
  obtain ⟨hf, es, clock, hm, F⟩ := h.map
  exact ⟨hf, es, clock, (hb.block mb h2).trans hm, F⟩
theorem TR.lts {w : World} {tb mb : Nat} {M : List (List UInt8 × Nd)} (h : TR w tb mb M) : tb < w.heap.size ∧ mb < w.heap.size ∧ ∀ p n, (p, n) ∈ M → n.blk < w.heap.size := by
  refine ⟨(Array.getElem?_eq_some_iff.1 h.top).1, ?_, fun p n hp => (h.nodes p n hp).1.lt⟩
  obtain ⟨hf, es, clock, hm, F⟩ := h.map
  exact (Array.getElem?_eq_some_iff.1 hm).1
/-- What come answers. -/
def ptrOf (o : Option Nd) : Value := match o with
  | none => .pointer none
  | some n => vN n
def comeR (M : List (List UInt8 × Nd)) (who : ByteArray) (p : List UInt8) : Value × Int :=
  if pathOk p = false then (.pointer none, 30) else if comeE M who (aheads p) = 0 then (ptrOf (M.lookup p), 0) else (.pointer none, comeE M who (aheads p))
theorem lookup_in {M : List (List UInt8 × Nd)} {x : List UInt8} {n : Nd} (h : M.lookup x = some n) : (x, n) ∈ M := by
  induction M with
  | nil => simp at h
  | cons a M ih =>
    obtain ⟨y, m⟩ := a
    rw [List.lookup_cons] at h
    by_cases e : x = y
    · subst e
      simp at h
      subst h
      exact List.mem_cons_self
    · rw [beq_eq_false_iff_ne.2 e] at h
      exact List.mem_cons_of_mem _ (ih h)
theorem lookup_out {M : List (List UInt8 × Nd)} {x : List UInt8} (h : M.lookup x = none) : x ∉ keysM M := by
  induction M with
  | nil => simp [keysM]
  | cons a M ih =>
    obtain ⟨y, m⟩ := a
    rw [List.lookup_cons] at h
    by_cases e : x = y
    · subst e
      simp at h
    · rw [beq_eq_false_iff_ne.2 e] at h
      intro hm
      rcases List.mem_cons.1 hm with e' | e'
      · exact e e'
      · exact ih h e'
theorem okS (l : List UInt8) (h : l.length ≤ 1000000) : OkK Tryz.prog 9 kS l :=
  OkK.of (keyOf_string_mk Tryz.underlying9 (by show l.toArray.size ≤ maxLen; unfold maxLen; rw [List.size_toArray]; omega))
theorem nilN (w : World) : (zeroValue 93).run Tryz.prog w = .ok (.pointer none) w := by kernel_rfl
/-- The two results of come: a pointer, a code. -/
structure R2 (W : World) (a b : Nat) (u : Value) (v : Int) : Prop where
  p : W.heap[a]? = some (.cells #[u] 93 (0, 0))
  c : W.heap[b]? = some (.cells #[.int .i64 v] 32 (0, 0))
theorem R2.set {W : World} {a b : Nat} {u : Value} {v : Int} (h : R2 W a b u v) (hab : a ≠ b) (u' : Value) (v' : Int) : R2 ((W.setCell ⟨a, 0, none⟩ u').setCell ⟨b, 0, none⟩ (.int .i64 v')) a b u' v' :=
  ⟨(Below.heap_setCell _ ⟨b, 0, none⟩ _ a hab).trans (heap_setCell1 h.p), heap_setCell1 ((Below.heap_setCell _ ⟨a, 0, none⟩ _ b (Ne.symm hab)).trans h.c)⟩
theorem R2.below {W W' : World} {a b B : Nat} {u : Value} {v : Int} (h : R2 W a b u v) (hb : Below B W W') (h1 : a < B) (h2 : b < B) : R2 W' a b u v := ⟨(hb.block a h1).trans h.p, (hb.block b h2).trans h.c⟩
theorem run_results21 {tmps : Array Value} {g1 g2 : Nat} {u v : Value} {W : World} (hp : tmps.getD 6 undef = .pointer (some ⟨g1, 0, none⟩)) (hq : tmps.getD 7 undef = .pointer (some ⟨g2, 0, none⟩)) (hc : W.cell? ⟨g1, 0, none⟩ = some u) (hd : W.cell? ⟨g2, 0, none⟩ = some v) :
    (results Tryz.f50 tmps).run Tryz.prog W = .ok (.tuple #[u, v]) W := by
  have hp' : tmps[6]?.getD undef = .pointer (some ⟨g1, 0, none⟩) := by simpa using hp
  have hq' : tmps[7]?.getD undef = .pointer (some ⟨g2, 0, none⟩) := by simpa using hq
  simp [results, Tryz.f50, go_sem, hc, hd, hp', hq']

theorem run_lookP {W : World} {tb mb : Nat} {M : List (List UInt8 × Nd)} (h : TR W tb mb M) (x : ByteArray) (hx : x.data.toList.length ≤ 1000000) :
    (Instr.lookup 94 (.map (some mb)) (.string x) false).run Tryz.prog W = .ok (ptrOf (M.lookup x.data.toList)) W := by
  have hxe := bytes_of (rfl : x.data.toList = x.data.toList)
  have hok := okS _ hx
  have hk : kS x.data.toList = .string x := congrArg Value.string hxe.symm
  cases hl : M.lookup x.data.toList with
  | none =>
    have hh : Maps.has (datM Tryz.prog 9 kS vN M) (litOf Tryz.prog 9 kS x.data.toList) = false := by rw [has_datM keyedS kS_inj h.map.1 hok]; simp [lookup_out hl]
    obtain ⟨v, ps, hrun, hv⟩ := h.map.2.lookup keyedS Tryz.underlying94 (nilN W) (zd := .held (.pointer none)) (zp := []) rfl hok
    rw [Maps.atKey_of_not_has hh] at hv
    unfold RV at hv
    simp at hv
    rw [hv.1, hk] at hrun
    exact hrun
  | some n =>
    obtain ⟨u, ps, hrun, hv⟩ := h.map.2.lookup keyedS Tryz.underlying94 (nilN W) (zd := .held (.pointer none)) (zp := []) rfl hok
    rw [at_datM keyedS kS_inj h.map.1 (lookup_in hl)] at hv
    unfold RV at hv
    simp at hv
    rw [hv.1, hk] at hrun
    exact hrun

/-- The state of come's loop. -/
structure Sc (w : World) (tb : Nat) (who : ByteArray) (D l : Nat) (o : Loop) (W : World) (v : Int) : Prop where
  below : Below w.heap.size w W
  b1 : W.heap[w.heap.size]? = some (.cells #[.pointer (some ⟨tb, 0, none⟩)] 25 (0, 0))
  b2 : W.heap[w.heap.size + 1]? = some (.cells #[.string who] 9 (0, 0))
  rs : R2 W (w.heap.size + 1 + 1) (w.heap.size + 1 + 1 + 1) (.pointer none) v
  rc : W.heap[l]? = some (.loop o)
  df : W.heap[D]? = some (.deferred (some []))
theorem Sc.put {w : World} {tb : Nat} {who : ByteArray} {D l : Nat} {o : Loop} {W : World} {v : Int} (h : Sc w tb who D l o W v) (h1 : w.heap.size + 4 ≤ l) (h2 : D ≠ l) (o' : Loop) : Sc w tb who D l o' (W.putObj l (.loop o')) v := by
  have hl := (Array.getElem?_eq_some_iff.1 h.rc).1
  exact ⟨h.below.grown (grownBy_putObj' W l _) (by have := h.below.size; omega) (fun k e => by cases e; omega), (World.putObj_heap_other (by omega)).trans h.b1, (World.putObj_heap_other (by omega)).trans h.b2,
    ⟨(World.putObj_heap_other (by omega)).trans h.rs.p, (World.putObj_heap_other (by omega)).trans h.rs.c⟩, World.putObj_heap_same hl, (World.putObj_heap_other h2).trans h.df⟩
theorem Sc.res {w : World} {tb : Nat} {who : ByteArray} {D l : Nat} {o : Loop} {W : World} {v : Int} (h : Sc w tb who D l o W v) (h1 : w.heap.size + 4 ≤ l) (h2 : w.heap.size + 4 ≤ D) (v' : Int) :
    Sc w tb who D l o ((W.setCell ⟨w.heap.size + 1 + 1, 0, none⟩ (.pointer none)).setCell ⟨w.heap.size + 1 + 1 + 1, 0, none⟩ (.int .i64 v')) v' := by
  have far (k : Nat) (u1 : k ≠ w.heap.size + 1 + 1) (u2 : k ≠ w.heap.size + 1 + 1 + 1) : ((W.setCell ⟨w.heap.size + 1 + 1, 0, none⟩ (.pointer none)).setCell ⟨w.heap.size + 1 + 1 + 1, 0, none⟩ (.int .i64 v')).heap[k]? = W.heap[k]? :=
    (Below.heap_setCell _ ⟨_, 0, none⟩ _ k u2).trans (Below.heap_setCell _ ⟨_, 0, none⟩ _ k u1)
  exact ⟨(h.below.setCell (p := ⟨w.heap.size + 1 + 1, 0, none⟩) (by simp <;> omega) _).setCell (p := ⟨w.heap.size + 1 + 1 + 1, 0, none⟩) (by simp <;> omega) _, (far _ (by omega) (by omega)).trans h.b1, (far _ (by omega) (by omega)).trans h.b2, h.rs.set (by omega) _ _, (far _ (by omega) (by omega)).trans h.rc, (far _ (by omega) (by omega)).trans h.df⟩

set_option maxRecDepth 100000 in
set_option maxHeartbeats 4000000 in
theorem come_any (w : World) (tb mb : Nat) (M : List (List UInt8 × Nd)) (hT : TR w tb mb M) (who s : ByteArray) (p : List UInt8) (hp : s.data.toList = p) (hs : p.length ≤ 100000) :
    Calls Tryz.prog 50 #[.pointer (some ⟨tb, 0, none⟩), .string who, .string s] w fun e w' => e = .returned (.tuple #[(comeR M who p).1, .int .i64 (comeR M who p).2]) ∧ Below w.heap.size w w' := by
  refine (callsIn_wide (n := 9)).1 ?_
  refine callsIn_of_wp_marks Tryz.func50 rfl trivial ?_ rfl
  simp only [Tryz.ntmps50, List.size_toArray, List.length_cons, List.length_nil, Nat.reduceAdd, Nat.reduceSub, Array.replicate_succ, Array.replicate_zero, List.push_toArray, List.append_toArray, List.nil_append, List.cons_append]
  have HT := Lib.hid hT
  have PA := Lib.hid (fun W => path_any W s p hp hs)
  obtain ⟨w0, hw0⟩ : ∃ w0, w0 = (((w.alloc (.cells #[.pointer (some ⟨tb, 0, none⟩)] 25)).alloc (.cells #[.string who] 9)).alloc (.cells #[.pointer none] 93)).alloc (.cells #[.int .i64 0] 32) := ⟨_, rfl⟩
  have d1 := World.alloc_heap_new w (.cells #[.pointer (some ⟨tb, 0, none⟩)] 25)
  have d2 := World.alloc_heap_new (w.alloc (.cells #[.pointer (some ⟨tb, 0, none⟩)] 25)) (.cells #[.string who] 9)
  have d3 := World.alloc_heap_new ((w.alloc (.cells #[.pointer (some ⟨tb, 0, none⟩)] 25)).alloc (.cells #[.string who] 9)) (.cells #[.pointer none] 93)
  have d4 := World.alloc_heap_new (((w.alloc (.cells #[.pointer (some ⟨tb, 0, none⟩)] 25)).alloc (.cells #[.string who] 9)).alloc (.cells #[.pointer none] 93)) (.cells #[.int .i64 0] 32)
  simp only [World.size_alloc] at d2 d3 d4
  have hz : w0.heap.size = w.heap.size + 4 := by rw [hw0]; simp
  rw [← hw0] at d4
  have e3 : w0.heap[w.heap.size + 1 + 1]? = some (.cells #[.pointer none] 93 (0, 0)) := by rw [hw0]; exact (Below.heap_alloc _ _ _ (by simp)).trans d3
  have e2 : w0.heap[w.heap.size + 1]? = some (.cells #[.string who] 9 (0, 0)) := by rw [hw0]; exact (Below.heap_alloc _ _ _ (by simp <;> omega)).trans ((Below.heap_alloc _ _ _ (by simp)).trans d2)
  have e1 : w0.heap[w.heap.size]? = some (.cells #[.pointer (some ⟨tb, 0, none⟩)] 25 (0, 0)) := by rw [hw0]; exact (Below.heap_alloc _ _ _ (by simp <;> omega)).trans ((Below.heap_alloc _ _ _ (by simp <;> omega)).trans ((Below.heap_alloc _ _ _ (by simp)).trans d1))
  have hb0 : Below w.heap.size w w0 := by rw [hw0]; exact (((((Below.refl _ w).alloc (Nat.le_refl _) _).alloc (by simp) _).alloc (by simp <;> omega) _).alloc (by simp <;> omega) _)
  have HZ := Lib.hid hz
  have E1 := Lib.hid e1
  have E2 := Lib.hid e2
  have E3 := Lib.hid e3
  have E4 := Lib.hid d4
  have HB0 := Lib.hid hb0
  have HW0 := Lib.hid hw0
  clear d1 d2 d3 d4 e1 e2 e3 hz hb0 hw0 hT
  cases hok : pathOk p with
  | false =>
    have HK := Lib.hid hok
    clear hok
    gi_wp2_with (refine ⟨trivial, ?_⟩; gi_at_call 70; rw [← HW0.out]; refine (callsIn_wide.2 (PA.out _)).mono ?_; rintro e w1 ⟨rfl, hb1⟩; rw [HK.out]; have HB1 := Lib.hid hb1; (have k3 := cell_box ((hb1.block (w.heap.size + 1 + 1) (by have := HZ.out; omega)).trans E3.out)); (have k4 := cell_box ((hb1.block (w.heap.size + 1 + 1 + 1) (by have := HZ.out; omega)).trans E4.out)); clear hb1)
    have hz := HZ.out
    have r1 : R2 w1 (w.heap.size + 1 + 1) (w.heap.size + 1 + 1 + 1) (.pointer none) 0 := R2.below ⟨E3.out, E4.out⟩ HB1.out (by omega) (by omega)
    have r2 := r1.set (by omega) (.pointer none) 30
    refine ⟨_, run_results21 rfl rfl (cell_box r2.p).1 (cell_box r2.c).1, ?_, ?_⟩
    · rw [comeR, if_pos HK.out]
    · exact ((HB0.out.trans (HB1.out.mono (by omega))).setCell (p := ⟨w.heap.size + 1 + 1, 0, none⟩) (by simp <;> omega) _).setCell (p := ⟨w.heap.size + 1 + 1 + 1, 0, none⟩) (by simp <;> omega) _
  | true =>
    have HK := Lib.hid hok
    clear hok
    gi_wp2_with (refine ⟨trivial, ?_⟩; first
      | (gi_at_call 70; rw [← HW0.out]; refine (callsIn_wide.2 (PA.out _)).mono ?_; rintro e w1 ⟨rfl, hb1⟩; rw [HK.out]; have HB1 := Lib.hid hb1; clear hb1)
      | (gi_at_call 83; refine (callsIn_wide.2 (ahead_any _ s)).mono ?_; rintro e w2 ⟨rfl, hw2⟩))
    have hz := HZ.out
    have hsz1 := HB1.out.size
    rw [← hw2]
    obtain ⟨b, hb⟩ : ∃ b, b = w1.heap.size := ⟨_, rfl⟩
    rw [← hb] at hsz1 ⊢
    have q0 : w2.heap[b]? = some (.cells #[.string s] 9 (0, 0)) := by rw [hw2, hb]; exact World.alloc_heap_new w1 _
    have hs2 : w2.heap.size = b + 1 := by rw [hw2, hb]; simp
    have hb2 : Below w0.heap.size w0 w2 := by rw [hw2]; exact HB1.out.alloc HB1.out.size _
    have hbw : Below w.heap.size w w2 := HB0.out.trans (hb2.mono (by omega))
    have hTL := HT.out.lts
    have hT2 : TR w2 tb mb M := HT.out.below hbw hTL.1 hTL.2.1 hTL.2.2
    have q1 := (hb2.block (w.heap.size) (by omega)).trans E1.out
    have q2 := (hb2.block (w.heap.size + 1) (by omega)).trans E2.out
    have q3 : R2 w2 (w.heap.size + 1 + 1) (w.heap.size + 1 + 1 + 1) (.pointer none) 0 := R2.below ⟨E3.out, E4.out⟩ hb2 (by omega) (by omega)
    clear hw2 hb hb2 HB1 HB0 E1 E2 E3 E4 HW0
    refine wpIn_rangeFunc_rec rfl (enters_of Tryz.func103 (by kernel_rfl) rfl) ?_
    intro fn o ho
    have hor : o.state = .ready := by rw [ho]
    have hope : o.pending = none := by rw [ho]
    have hop := congrArg Loop.params ho
    have hot := congrArg Loop.tmps ho
    have hoa := congrArg Loop.assign ho
    have hob := congrArg Loop.body ho
    dsimp only at hop hot hoa hob
    clear ho
    obtain ⟨D, hD⟩ : ∃ D, D = w2.heap.size := ⟨_, rfl⟩
    have hSt0 : Sc w tb who D (D + 1) o ((w2.alloc (.deferred (some []))).alloc (.loop o)) 0 := by
      have d1 := World.alloc_heap_new w2 (.deferred (some []))
      have d2 := World.alloc_heap_new (w2.alloc (.deferred (some []))) (.loop o)
      rw [World.size_alloc] at d2
      have hbx : Below w2.heap.size w2 ((w2.alloc (.deferred (some []))).alloc (.loop o)) := ((Below.refl _ w2).alloc (Nat.le_refl _) _).alloc (by simp) _
      subst hD
      exact ⟨hbw.trans (hbx.mono (by omega)), (hbx.block _ (by omega)).trans q1, (hbx.block _ (by omega)).trans q2, q3.below hbx (by omega) (by omega), d2, (Below.heap_alloc _ _ _ (by simp)).trans d1⟩
    have q0' : ((w2.alloc (.deferred (some []))).alloc (.loop o)).heap[b]? = some (.cells #[.string s] 9 (0, 0)) :=
      (Below.heap_alloc _ _ _ (by simp <;> omega)).trans ((Below.heap_alloc _ _ _ (by omega)).trans q0)
    rw [← hD] at hs2 ⊢
    clear hD
    obtain ⟨oD, hoD⟩ : ∃ oD : Loop, oD = { o with state := .done, pending := some .ret } := ⟨_, rfl⟩
    obtain ⟨oB, hoB⟩ : ∃ oB : Loop, oB = { o with state := .busy } := ⟨_, rfl⟩
    have hoDs : oD.state = .done := by rw [hoD]
    have hoDp : oD.pending = some .ret := by rw [hoD]
    have hBo : { oB with state := .ready, pending := none } = o ∧ { oB with state := .done, pending := some .ret } = oD := by
      subst hoD hoB
      cases o
      simp at hor hope
      subst hor hope
      exact ⟨rfl, rfl⟩
    have hpl : 0 < p.length := by
      cases p with
      | nil => have := HK.out; simp [pathOk] at this
      | cons _ _ => simp
    refine (ahead1_any (9 - 1) (D + 1) b s p hp (by omega) hpl (by omega)
      (fun pre W => Sc w tb who D (D + 1) o W 0 ∧ comeE M who pre = 0)
      (fun pre W => ∃ v, Sc w tb who D (D + 1) oD W v ∧ comeE M who pre = v ∧ v ≠ 0) ?_ _ q0' ⟨hSt0, rfl⟩).mono ?_
    · rintro pre x W ⟨hS, hall⟩ hC hx
      have hy := run_yield (P := Tryz.prog) (args := #[.string x]) hS.rc (by rw [hop]; rfl)
      refine ⟨o.fn, _, o.assign, o.body, hy, roundIn_of_wpIn trivial ?_⟩
      clear hy
      rw [hop, hot, hoa, hob]
      have hS2 := hS.put (by omega) (by omega) oB
      have hC2 : (W.putObj (D + 1) (.loop oB)).heap[b]? = some (.cells #[.string s] 9 (0, 0)) := (World.putObj_heap_other (by omega)).trans hC
      have hbeg := run_beginRound (P := Tryz.prog) hS.rc hor
      rw [← hoB] at hbeg
      obtain ⟨W2, hW2⟩ : ∃ W2, W2 = W.putObj (D + 1) (.loop oB) := ⟨_, rfl⟩
      rw [← hW2] at hS2 hC2 hbeg
      have hTW : TR W2 tb mb M := HT.out.below hS2.below hTL.1 hTL.2.1 hTL.2.2
      have k1 := cell_box hS2.b1
      have k2 := cell_box hS2.b2
      have k3 := cell_box hS2.rs.p
      have k4 := cell_box hS2.rs.c
      have kt := cell_box hTW.top
      have hxe := bytes_of (rfl : x.data.toList = x.data.toList)
      have XE := Lib.hid hxe
      have HZ1 := Lib.hid hsz1
      have HZ2 := Lib.hid hs2
      have HS2 := Lib.hid hS2
      have HC2 := Lib.hid hC2
      have HTW := Lib.hid hTW
      have HE := Lib.hid hBo
      have OK := Lib.hid (okS x.data.toList (show x.size ≤ 1000000 by omega))
      have hLK := run_lookP hTW x (show x.size ≤ 1000000 by omega)
      have HA := Lib.hid hall
      clear hz hsz1 hs2 hW2 hS hC hS2 hC2 hTW hSt0 q0 q1 q2 q3 q0' hbw hTL hT2 hop hot hoa hob hoB hoD hor hope hBo hoDs hoDp hpl hxe hall hx
      -- a round that ends the loop with code c
      have fin : ∀ c : Int, c ≠ 0 → comeE M who (pre ++ [x.data.toList]) = c → ∀ W3, W3 = (W2.setCell ⟨w.heap.size + 1 + 1, 0, none⟩ (.pointer none)).setCell ⟨w.heap.size + 1 + 1 + 1, 0, none⟩ (.int .i64 c) →
          ∃ v w', (Instr.endRound (D + 1) (some .ret)).run Tryz.prog W3 = .ok v w' ∧ ((Ending.returned v = .returned (.bool true) ∧ (Sc w tb who D (D + 1) o w' 0 ∧ comeE M who (pre ++ [x.data.toList]) = 0) ∧ w'.heap[b]? = some (.cells #[.string s] 9 (0, 0))) ∨
            (Ending.returned v = .returned (.bool false) ∧ ∃ v, Sc w tb who D (D + 1) oD w' v ∧ comeE M who (pre ++ [x.data.toList]) = v ∧ v ≠ 0)) := by
        intro c hc hce W3 hW3
        have hz1 := HZ1.out
        have hz2 := HZ2.out
        have hz := HZ.out
        have hS3 := HS2.out.res (by omega) (by omega) c
        rw [← hW3] at hS3
        have he := run_endRound (P := Tryz.prog) (some .ret) hS3.rc
        simp only [Option.isNone_some, Bool.false_eq_true, if_false] at he
        rw [HE.out.2] at he
        exact ⟨_, _, he, .inr ⟨rfl, c, hS3.put (by omega) (by omega) oD, hce, hc⟩⟩
      have FIN := Lib.hid fin
      clear fin
      cases hlk : M.lookup x.data.toList with
      | none =>
        rw [hlk] at hLK
        replace hLK : (Instr.lookup 94 (.map (some mb)) (.string x) false).run Tryz.prog W2 = .ok (.pointer none) W2 := hLK
        have HO := Lib.hid (lookup_out hlk)
        have HR := Lib.hid (show comeE M who (pre ++ [x.data.toList]) = 110 by rw [comeE_app, HA.out, if_pos rfl, comeE, hlk])
        clear hlk
        gi_wp2
        exact FIN.out 110 (by decide) HR.out _ rfl
      | some nd =>
        rw [hlk] at hLK
        replace hLK : (Instr.lookup 94 (.map (some mb)) (.string x) false).run Tryz.prog W2 = .ok (.pointer (some ⟨nd.blk, 0, none⟩)) W2 := hLK
        have hin := lookup_in hlk
        have hN := HTW.out.nodes _ _ hin
        have kd := hN.1.at_ (i := 1) (v := .bool nd.dir) rfl
        have HN := Lib.hid hN
        have HI := Lib.hid hin
        have hE : comeE M who (pre ++ [x.data.toList]) = if nd.dir = false then 112 else if mayOk who 1 nd.owner nd.mode = false then 114 else 0 := by rw [comeE_app, HA.out, if_pos rfl, comeE, hlk]; rfl
        clear hlk hN hin
        cases hd : nd.dir with
        | false =>
          have HR := Lib.hid (show comeE M who (pre ++ [x.data.toList]) = 112 by rw [hE, if_pos hd])
          rw [hd] at kd
          clear hE
          gi_wp2
          exact FIN.out 112 (by decide) HR.out _ rfl
        | true =>
          rw [hd] at kd
          have MA := Lib.hid (fun W (hW : CB W nd.blk 63 (nodeC ⟨x.data.toList.toArray⟩ nd.dir nd.owner nd.mode nd.data)) => may_any W who 1 nd.blk _ nd.owner nd.dir nd.mode nd.data hW HN.out.2 (.inl rfl))
          cases hmy : mayOk who 1 nd.owner nd.mode with
          | false =>
            have HR := Lib.hid (show comeE M who (pre ++ [x.data.toList]) = 114 by rw [hE, hd, if_neg (by decide), if_pos hmy])
            have HM := Lib.hid hmy
            clear hE hmy
            gi_wp2_with ((refine ⟨trivial, ?_⟩; gi_at_call 63; refine (CallsIn.inRound _ (callsIn_wide.2 (MA.out _ HN.out.1))).mono ?_; rintro e w5 ⟨rfl, rfl⟩; rw [HM.out]))
            exact FIN.out 114 (by decide) HR.out _ rfl
          | true =>
            have HR := Lib.hid (show comeE M who (pre ++ [x.data.toList]) = 0 by rw [hE, hd, if_neg (by decide), if_neg (by rw [hmy]; decide)])
            have HM := Lib.hid hmy
            clear hE hmy
            gi_wp2_with ((refine ⟨trivial, ?_⟩; gi_at_call 63; refine (CallsIn.inRound _ (callsIn_wide.2 (MA.out _ HN.out.1))).mono ?_; rintro e w5 ⟨rfl, rfl⟩; rw [HM.out]))
            have hz1 := HZ1.out
            have hz2 := HZ2.out
            have hz := HZ.out
            have he := run_endRound (P := Tryz.prog) none HS2.out.rc
            simp only [Option.isNone_none, if_true] at he
            rw [HE.out.1] at he
            exact ⟨_, _, he, .inl ⟨rfl, ⟨HS2.out.put (by omega) (by omega) o, HR.out⟩, (World.putObj_heap_other (by omega)).trans HC2.out⟩⟩
    · rintro e W2 ⟨⟨v, rfl⟩, (⟨hS, hall⟩ | ⟨pre, hpre, c, hS, hce, hc⟩)⟩
      · have he := run_endLoop (P := Tryz.prog) hS.rc (by rw [hor]; simp)
        rw [hope] at he
        obtain ⟨W4, he, o', hS4⟩ : ∃ W4, (Instr.endLoop (D + 1)).run Tryz.prog W2 = .ok none W4 ∧ ∃ o', Sc w tb who D (D + 1) o' W4 0 := ⟨_, he, _, hS.put (by omega) (by omega) _⟩
        refine ⟨none, W4, he, ?_⟩
        have hTW : TR W4 tb mb M := HT.out.below hS4.below hTL.1 hTL.2.1 hTL.2.2
        have k1 := cell_box hS4.b1
        have k3 := cell_box hS4.rs.p
        have k4 := cell_box hS4.rs.c
        have kt := cell_box hTW.top
        have hLK := run_lookP hTW s (by rw [hp]; omega)
        rw [hp] at hLK
        have HS4 := Lib.hid hS4
        have HZ1 := Lib.hid hsz1
        have HZ2 := Lib.hid hs2
        have HA := Lib.hid (show comeR M who p = (ptrOf (M.lookup p), 0) by rw [comeR, if_neg (by rw [HK.out]; decide), if_pos hall])
        clear he hS hS4 hTW hz hsz1 hs2 hSt0 q0 q1 q2 q3 q0' hbw hTL hT2 hop hot hoa hob hoB hoD hor hope hBo hoDs hoDp hpl hall
        have fin : ∀ (u : Value) (W5 : World), u = ptrOf (M.lookup p) → W5 = (W4.setCell ⟨w.heap.size + 1 + 1, 0, none⟩ u).setCell ⟨w.heap.size + 1 + 1 + 1, 0, none⟩ (.int .i64 0) →
            W5.heap[D]? = some (.deferred (some [])) ∧ R2 (W5.putObj D (.deferred none)) (w.heap.size + 1 + 1) (w.heap.size + 1 + 1 + 1) u 0 ∧ Below w.heap.size w (W5.putObj D (.deferred none)) := by
          intro u W5 _ hW5
          have hz1 := HZ1.out
          have hz2 := HZ2.out
          have hz := HZ.out
          have hS4 := HS4.out
          have r4 := hS4.rs.set (by omega) u 0
          have hK' := (Below.heap_setCell (W4.setCell ⟨w.heap.size + 1 + 1, 0, none⟩ u) ⟨w.heap.size + 1 + 1 + 1, 0, none⟩ (.int .i64 0) D (show D ≠ w.heap.size + 1 + 1 + 1 by omega)).trans ((Below.heap_setCell W4 ⟨w.heap.size + 1 + 1, 0, none⟩ u D (show D ≠ w.heap.size + 1 + 1 by omega)).trans hS4.df)
          have hB5 := (hS4.below.setCell (p := ⟨w.heap.size + 1 + 1, 0, none⟩) (by simp <;> omega) u).setCell (p := ⟨w.heap.size + 1 + 1 + 1, 0, none⟩) (by simp <;> omega) (.int .i64 0)
          rw [← hW5] at r4 hK' hB5
          refine ⟨hK', ⟨(World.putObj_heap_other (by omega)).trans r4.p, (World.putObj_heap_other (by omega)).trans r4.c⟩, ?_⟩
          exact hB5.grown (grownBy_putObj' _ D _) (by have := (Array.getElem?_eq_some_iff.1 hK').1; omega) (fun k e => by cases e; omega)
        have FIN := Lib.hid fin
        clear fin
        cases hlk : M.lookup p with
        | none =>
          have HL := Lib.hid hlk
          rw [hlk] at hLK
          replace hLK : (Instr.lookup 94 (.map (some mb)) (.string s) false).run Tryz.prog W4 = .ok (.pointer none) W4 := hLK
          clear hlk
          gi_wp2
          obtain ⟨f1, f2, f3⟩ := FIN.out (.pointer none) _ (by rw [HL.out]; rfl) rfl
          refine ⟨by simp, .inl ⟨_, _, rfl, run_takeDeferred f1, ?_⟩⟩
          exact ⟨_, run_results21 rfl rfl (cell_box f2.p).1 (cell_box f2.c).1, by rw [HA.out, HL.out]; rfl, f3⟩
        | some nd =>
          have HL := Lib.hid hlk
          rw [hlk] at hLK
          replace hLK : (Instr.lookup 94 (.map (some mb)) (.string s) false).run Tryz.prog W4 = .ok (.pointer (some ⟨nd.blk, 0, none⟩)) W4 := hLK
          clear hlk
          gi_wp2
          obtain ⟨f1, f2, f3⟩ := FIN.out (.pointer (some ⟨nd.blk, 0, none⟩)) _ (by rw [HL.out]; rfl) rfl
          refine ⟨by simp, .inl ⟨_, _, rfl, run_takeDeferred f1, ?_⟩⟩
          exact ⟨_, run_results21 rfl rfl (cell_box f2.p).1 (cell_box f2.c).1, by rw [HA.out, HL.out]; rfl, f3⟩
      · have he := run_endLoop (P := Tryz.prog) hS.rc (by rw [hoDs]; simp)
        rw [hoDp] at he
        obtain ⟨W4, he, o', hS4⟩ : ∃ W4, (Instr.endLoop (D + 1)).run Tryz.prog W2 = .ok (some .ret) W4 ∧ ∃ o', Sc w tb who D (D + 1) o' W4 c := ⟨_, he, _, hS.put (by omega) (by omega) _⟩
        refine ⟨some .ret, W4, he, ?_⟩
        have HS4 := Lib.hid hS4
        have HZ1 := Lib.hid hsz1
        have HZ2 := Lib.hid hs2
        have HA := Lib.hid (show comeR M who p = (.pointer none, c) by
          obtain ⟨r, hr⟩ := hpre
          have hcr : comeE M who (aheads p) = c := by rw [← hr, comeE_app, hce, if_neg hc]
          rw [comeR, if_neg (by rw [HK.out]; decide), hcr, if_neg hc])
        clear he hS hS4 hz hsz1 hs2 hSt0 q0 q1 q2 q3 q0' hbw hTL hT2 hop hot hoa hob hoB hoD hor hope hBo hoDs hoDp hpl hpre hce hc
        gi_wp2
        have hz1 := HZ1.out
        have hz2 := HZ2.out
        have hz := HZ.out
        have hS4 := HS4.out
        refine ⟨by simp, .inl ⟨_, _, rfl, run_takeDeferred hS4.df, ?_⟩⟩
        have f1 := (cell_box ((World.putObj_heap_other (o := .deferred none) (show w.heap.size + 1 + 1 ≠ D by omega)).trans hS4.rs.p)).1
        have f2 := (cell_box ((World.putObj_heap_other (o := .deferred none) (show w.heap.size + 1 + 1 + 1 ≠ D by omega)).trans hS4.rs.c)).1
        refine ⟨_, run_results21 rfl rfl f1 f2, by rw [HA.out], ?_⟩
        exact hS4.below.grown (grownBy_putObj' _ D _) (by have := (Array.getElem?_eq_some_iff.1 hS4.df).1; omega) (fun k e => by cases e; omega)
end Go.Proofs.YtlkchajkhplapaaGreatDoor
