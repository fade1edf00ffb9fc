/- The walk of FramePieces. -/
import Derived.Test.YtajfaplaaafjiaaFrn
namespace Go.Proofs.Ytajfaplaaafjiaa
open Go.RowKit

theorem yields_loadCC {P : Program} {ops : Array Oper} {S : World → Prop} {oi : Oper} {a : Act} {ty t : TypeId} {n g off : Nat} {cs p : List Value} (hT : AggT P ty n) (x : Operand) (ho : oi.op = .load ty x) (hw : Region.wanted oi (yielded ops a.tmps) = true) (h : ∀ wx, S wx → CB wx g t cs) (hp : (cs.drop off).take n = p) (hl : off + n ≤ cs.length) (hx : a.eval x = .pointer (some ⟨g, off, none⟩)) :
    YieldsIf P ops S oi (.agg p.toArray) a := by
  refine .inl ⟨hw, fun wx hS => ?_⟩
  have hr := run_loadC hT (h wx hS) hp hl
  unfold execOp
  simp only [ho, hx, Instr.loadAt, Instr.sureAddr, Sem.run_bind, Sem.run_pure, Result.andThen_ok, hr]
theorem wp_lit1E {P : Program} {w : World} {o : Oper} {d : Option Tmp} {a : Act} {K : Act → World → Prop} {Q : Exit → Act → World → Prop} {t e : TypeId} {p zs : List Value} {sz : Nat} {x : Operand} (hd : o.dst = d) (ho : o.op = .buildSlice t 1 #[(0, x)]) (ht : P.underlying t = some (.slice e)) (hi : (P.info? e).map (·.size) = some sz) (hz : ∀ w, (zeroValue e).run P w = .ok (.agg zs.toArray) w) (hp : p.length = sz) (hs : sz ≤ 1000) (hpos : 0 < sz) (hx : a.eval x = .agg p.toArray)
    (hk : ∀ g w', CB w' g e p → w.grownBy w' none → g = w.heap.size → K (a.put d (.slice (some ⟨g, 0, none⟩) 1 1)) w') : o.wp P a w K Q :=
  wp_lit1D hd ho ht hi hz hp hs hpos hx (hk _ _ (CB.new w e p) (grown_alloc _ _ _) rfl)

theorem scan_many : ∀ (n : Nat) (a : List UInt8), a.length < n → (scan a).1.length ≤ a.length
  | 0, _, h => by omega
  | n + 1, a, h => by
    by_cases h0 : a = []
    · subst h0; exact Nat.le_refl _
    by_cases h3 : 4 < (a.headD 0).toNat
    · rw [scan_chan h0 h3]; exact Nat.zero_le _
    by_cases h4 : a.length < 3
    · rw [scan_inc (.inr ⟨by omega, .inl h4⟩)]; exact Nat.zero_le _
    by_cases h5 : 512 < bodyN a
    · rw [scan_long h0 h3 (by omega) h5]; exact Nat.zero_le _
    by_cases h6 : a.length < 3 + bodyN a
    · rw [scan_inc (.inr ⟨by omega, .inr ⟨by omega, h6⟩⟩)]; exact Nat.zero_le _
    · rw [scan_whole h3 h5 (by omega)]
      have := scan_many n (a.drop (3 + bodyN a)) (by rw [List.length_drop]; omega)
      rw [List.length_drop] at this
      show (_ :: (scan (a.drop (3 + bodyN a))).1).length ≤ a.length
      rw [List.length_cons]
      omega
theorem frB_length (f : Fr) : (frB f).length = f.2.length + 3 := by simp [frB]
theorem scan_snoc {bb : List UInt8} {fs : List Fr} (h : scan bb = (fs, [], 0)) {f : Fr} (h1 : 0 ≤ f.1 ∧ f.1 ≤ 4) (h2 : f.2.length ≤ 512) : scan (bb ++ frB f) = (fs ++ [f], [], 0) := by
  have e := scan_frB h1 h2 []
  rw [List.append_nil, scan_nil] at e
  rw [scan_app (frB f) (by rw [h]), h, List.nil_append, e]
theorem scan_part {a b : List UInt8} (h : (scan (a ++ b)).2.2 = 0) : (scan a).2.2 = 0 := by
  apply Classical.byContradiction
  intro hne
  rw [scan_err b hne] at h
  exact hne h
/-- A piece of what is right, fed. -/
theorem feed_piece {done d : List UInt8} {acc fs : List Fr} {p : List UInt8} (h : scan done = (acc, p, 0)) (ha : scan (done ++ d) = (fs, [], 0)) (k : Nat) :
    ∃ f2 p2, feedF p 0 (d.take k) = (f2, p2, 0) ∧ scan (done ++ d.take k) = (acc ++ f2, p2, 0) ∧ Inc p ∧ f2.length ≤ p.length + (d.take k).length := by
  have h1 : (scan (done ++ d.take k)).2.2 = 0 := by
    refine scan_part (b := d.drop k) ?_
    rw [List.append_assoc, List.take_append_drop, ha]
  have h2 := scan_app (d.take k) (a := done) (by rw [h])
  rw [h] at h2
  simp only at h2
  rw [h2] at h1
  refine ⟨(scan (p ++ d.take k)).1, (scan (p ++ d.take k)).2.1, ?_, ?_, ?_, ?_⟩
  · unfold feedF
    rw [if_neg (by simp), if_neg (by rw [h1]; simp), ← h1]
  · rw [h2, ← h1]
  · have := scan_Inc (b := done) (by rw [h])
    rw [h] at this
    exact this
  · have := scan_many _ (p ++ d.take k) (Nat.lt_succ_self _)
    rw [List.length_append] at this
    exact this
/-- What stands at the head of each round of the first loop. -/
def PcRel (w : World) (r m : Nat) (s6 s7 s34 : Value) (wr : World) : Prop :=
  ∃ (k : Nat) (bb : List UInt8) (fs : List Fr), s34 = .int .i64 k ∧ k ≤ m ∧ w.grownBy wr none ∧ RD wr w.heap.size r (.slice none 0 0) [] 0 ∧ OwnB wr w.heap.size 5 s6 bb ∧ RowF wr w.heap.size w.heap.size s7 fs ∧
    bb.length ≤ 515 * k ∧ fs.length ≤ k ∧ scan bb = (fs, [], 0)
/-- .. of the second one. -/
def GtRel (w w2 : World) (r m : Nat) (fs : List Fr) (s6 s12 s13 : Value) (wr : World) : Prop :=
  ∃ (A : Option Addr) (c n : Nat) (d done : List UInt8) (acc : List Fr) (v : Value) (p : List UInt8),
    s6 = .slice A d.length c ∧ s13 = .int .i64 n ∧ n ≤ m + 1 ∧ (m < n → d = []) ∧ d.length ≤ 20000 ∧ acc.length ≤ done.length ∧ done.length + d.length ≤ 20000 ∧ Mod (fun k => k = r ∨ w2.heap.size ≤ k) w2 wr ∧ RB wr w2.heap.size A d c ∧ Apart A d r v ∧
    RD wr w.heap.size r v p 0 ∧ (∀ g, v.ownBlock = some g → w2.heap.size ≤ g) ∧ OwnF wr w2.heap.size (fun g => v.ownBlock ≠ some g) s12 acc ∧
    scan done = (acc, p, 0) ∧ scan (done ++ d) = (fs, [], 0)

theorem scan_cnt {d : List UInt8} {acc : List Fr} {p : List UInt8} {e : Int} (h : scan d = (acc, p, e)) : acc.length ≤ d.length := by
  have := scan_many _ d (Nat.lt_succ_self _)
  rw [h] at this
  exact this
theorem got_step {w w2 wr w6 wd : World} {r : Nat} {v v6 s12 vf : Value} {p p2 d : List UInt8} {acc f2 : List Fr} {A : Option Addr} {c : Nat} (hrw : w.heap.size ≤ r ∧ r < w2.heap.size) (m0 : Mod (fun k => k = r ∨ w2.heap.size ≤ k) w2 wr) (r0 : RD wr w.heap.size r v p 0) (v0 : ∀ g, v.ownBlock = some g → w2.heap.size ≤ g)
    (og : OwnF wr w2.heap.size (fun g => v.ownBlock ≠ some g) s12 acc) (dc : RB wr w2.heap.size A d c) (ap : Apart A d r v) (o6 : OwnF w6 wr.heap.size (fun g => v6.ownBlock ≠ some g) vf f2) (r6 : RD w6 w.heap.size r v6 p2 0) (m6 : Mod (rdS r v) wr w6)
    (v6c : ∀ g, v6.ownBlock = some g → v.ownBlock = some g ∨ wr.heap.size ≤ g) (gd : w6.grownBy wd none) :
    Mod (fun k => k = r ∨ w2.heap.size ≤ k) w2 wd ∧ RD wd w.heap.size r v6 p2 0 ∧ (∀ g, v6.ownBlock = some g → w2.heap.size ≤ g) ∧ OwnF wd w2.heap.size (fun g => v6.ownBlock ≠ some g) s12 acc ∧ OwnF wd wr.heap.size (fun g => v6.ownBlock ≠ some g) vf f2 ∧ RB wd w2.heap.size A d c ∧ Apart A d r v6 := by
  have hs := m0.size
  refine ⟨(m0.next m6 (fun i hi e => ?_)).grown gd (fun z hz => by cases hz), r6.made gd, fun g hg => ?_, ?_, o6.none_ gd, ?_, fun a hA hl => ⟨(ap a hA hl).1, fun e => ?_⟩⟩
  · rcases e with e | e
    · exact .inl e
    · exact .inr (v0 i e)
  · rcases v6c g hg with h | h
    · exact v0 g h
    · omega
  · have h1 := og.mod m6 (fun g hg e => by
      rcases e with e | e
      · have := (og.lt g hg).1; omega
      · exact og.ne_own r0.2.2 e hg) (fun g hk hb hlt e => by
      rcases e with e | e
      · omega
      · exact hk e)
    have h2 : OwnF wr w2.heap.size (fun g => v6.ownBlock ≠ some g ∧ v.ownBlock ≠ some g) s12 acc := og.mono (fun g hk hb hlt => ⟨fun e => by
      rcases v6c g e with h | h
      · exact hk h
      · omega, hk⟩)
    have h3 := h2.mod m6 (fun g hg e => by
      rcases e with e | e
      · have := (og.lt g hg).1; omega
      · exact og.ne_own r0.2.2 e hg) (fun g hk hb hlt e => by
      rcases e with e | e
      · omega
      · exact hk.2 e)
    exact (h3.none_ gd).mono (fun g hk _ _ => hk.1)
  · refine (dc.apart (fun a hA hl => m6.block a.block (by have := dc.blk a hA hl; omega) (fun e => ?_)) (Nat.le_refl _)).mod (Mod.made (S := fun _ => False) gd) (by have := m6.size; omega) (fun _ _ h => h)
    rcases e with e | e
    · exact (ap a hA hl).1 e
    · exact (ap a hA hl).2 e
  · rcases v6c _ e with h | h
    · exact (ap a hA hl).2 h
    · have := dc.blk a hA hl; omega
theorem got_app {w w2 wd w8 : World} {r : Nat} {v6 s12 : Value} {p2 d : List UInt8} {acc : List Fr} {A : Option Addr} {c : Nat} (m : Mod (fun k => k = r ∨ w2.heap.size ≤ k) w2 wd) (r6 : RD wd w.heap.size r v6 p2 0)
    (og : OwnF wd w2.heap.size (fun g => v6.ownBlock ≠ some g) s12 acc) (dc : RB wd w2.heap.size A d c) (g8 : wd.grownBy w8 s12.ownBlock) :
    Mod (fun k => k = r ∨ w2.heap.size ≤ k) w2 w8 ∧ RD w8 w.heap.size r v6 p2 0 ∧ RB w8 w2.heap.size A d c := by
  have m8 : Mod (fun k => some k = s12.ownBlock) wd w8 := Mod.of_grown g8
  exact ⟨m.grown g8 (fun z hz hlt => .inr (og.lt z hz).1), r6.mod m8 (fun e => og.ne_cells r6.2.1 (by decide) e.symm) (fun g hg e => og.ne_own r6.2.2 hg e.symm), dc.mod m8 m.size (fun i hi e => by have := (og.lt i e.symm).1; omega)⟩

set_option maxRecDepth 10000 in
set_option maxHeartbeats 8000000 in
theorem walk_FramePieces (w : World) (A0 : Option Addr) (l0 : List Fr) (cap0 : Nat) (h0 : RF w w.heap.size A0 l0 cap0) (hb : ∀ f ∈ l0, -9223372036854775808 ≤ f.1 ∧ f.1 ≤ 9223372036854775807) (A1 : Option Addr) (cuts : List Int) (cap1 : Nat) (h1 : RI w w.heap.size A1 cuts cap1) :
    Calls Try.prog 5 #[.slice A0 l0.length cap0, .slice A1 cuts.length cap1] w fun e w' => e = .returned (.bool true) ∧ Below w.heap.size w w' := by
  have H0 := Lib.hid h0
  have H1 := Lib.hid h1
  have HB := Lib.hid hb
  obtain ⟨m0, hm0⟩ : ∃ m, l0.length = m := ⟨_, rfl⟩
  obtain ⟨m1, hm1⟩ : ∃ m, cuts.length = m := ⟨_, rfl⟩
  have M0 := Lib.hid hm0
  have M1 := Lib.hid hm1
  have k0 : m0 ≤ 9223372036854775807 := by have := h0.1; have := h0.2.1; unfold maxLen at this; omega
  have k1 : m1 ≤ 9223372036854775807 := by have := h1.1; have := h1.2.1; unfold maxLen at this; omega
  rw [hm0, hm1]
  clear h0 h1 hb hm0 hm1
  by_cases g0 : 20 < m0
  · have gi : (20 : Int) < (m0 : Int) := by omega
    go_enter Try.func5, Try.ntmps5
    go_wp2_with (go_at_call 11; refine (speaks_any _).mono ?_; rintro e w1 ⟨rfl, g1⟩; have G1 := Lib.hid g1; clear g1)
    go_ret
    exact ⟨rfl, below_of_none G1.out⟩
  have g0i : (m0 : Int) ≤ 20 := by omega
  by_cases g1 : 200 < m1
  · have gi : (200 : Int) < (m1 : Int) := by omega
    go_enter Try.func5, Try.ntmps5
    go_wp2_with (go_at_call 11; refine (speaks_any _).mono ?_; rintro e w1 ⟨rfl, g1⟩; have G1 := Lib.hid g1; clear g1)
    go_ret
    exact ⟨rfl, below_of_none G1.out⟩
  have g1i : (m1 : Int) ≤ 200 := by omega
  have HM0 := Lib.hid (show m0 ≤ 20 ∧ m1 ≤ 200 by omega)
  clear g0 g1
  go_enter Try.func5, Try.ntmps5
  go_wp2_with (first
    | (go_at_call 11; refine (speaks_any _).mono ?_; rintro e w1 ⟨rfl, g1⟩; have G1 := Lib.hid g1; clear g1)
    | (go_at_call 14; refine (newReader_any _).mono ?_; rintro e w2 ⟨rfl, r2, g2⟩; have R2 := Lib.hid (r2.base_ G1.out.size); have G2 := Lib.hid (grown_trans' G1.out g2); clear r2 g2))
  have S2 := Lib.hid (show PcRel w w1.heap.size m0 (.slice (some ⟨w2.heap.size, 0, none⟩) 0 0) (.slice (some ⟨w2.heap.size + 1, 0, none⟩) 0 0) (.int .i64 0) ((w2.alloc (.cells #[] 5)).alloc (.cells #[] 24)) from
    ⟨0, [], [], rfl, Nat.zero_le _, grown_trans' (grown_trans' G2.out (grown_alloc _ _ none)) (grown_alloc _ _ none), (R2.out.made (grown_alloc _ _ none)).made (grown_alloc _ _ none), (OwnB.new0 w2 w.heap.size 5 G2.out.size).none_ (grown_alloc _ _ none),
      by have h := RowF.new0 (w2.alloc (.cells #[] 5)) w.heap.size w.heap.size (by simp only [World.size_alloc]; have := G2.out.size; omega); rw [World.size_alloc] at h; exact h, by simp, Nat.le_refl _, scan_nil⟩)
  clear R2 G2 G1
  generalize w1.heap.size = r at *
  go_loopw [6, 7, 34] (fun s6 s7 s34 wr => PcRel w r m0 s6 s7 s34 wr) (fun _ _ s34 _ => m0 - (intOf s34).toNat)
  case atStart => exact S2.out
  case round =>
    obtain ⟨k, bb, fs, rfl, hk, hG, hR, hal, hri, hbl, hfl, hsc⟩ := hrel
    have G0 := Lib.hid hG
    have R0 := Lib.hid hR
    have AL := Lib.hid hal
    have RI0 := Lib.hid hri
    have HAL := Lib.hid (show bb.length ≤ 10300 by have := HM0.out; omega)
    have HRL := Lib.hid (show fs.length ≤ 20 by have := HM0.out; omega)
    have HKL := Lib.hid (show bb.length ≤ 515 * k ∧ fs.length ≤ k from ⟨hbl, hfl⟩)
    have HSC := Lib.hid hsc
    clear hG hR hal hri hbl hfl hsc
    by_cases hlt : k < m0
    · obtain ⟨b, off, rfl, hbb, hc⟩ := H0.out.open_ (by have := M0.out; omega)
      obtain ⟨f, hf⟩ : ∃ f, l0[k]? = some f := ⟨_, List.getElem?_eq_getElem (by have := M0.out; omega)⟩
      obtain ⟨c1, V, cv, c2, hV⟩ := hc k f hf
      have hci := HB.out f (List.mem_of_getElem? hf)
      obtain ⟨c, l⟩ := f
      obtain ⟨ln, hln⟩ : ∃ x, l.length = x := ⟨_, rfl⟩
      simp only at c1 c2 hV hci
      rw [hln] at c2
      have L0 := Lib.hid hln
      have HV := Lib.hid hV
      have HC := Lib.hid (show I64 c from hci)
      have hlm : ln ≤ 9223372036854775807 := by have := hV.1; have := hV.2.1; unfold maxLen at this; omega
      have q1 := ((below_rw G0.out (Nat.le_refl _)).cell (p := ⟨b, off + k * 2, none⟩) hbb).trans c1
      have q2 := ((below_rw G0.out (Nat.le_refl _)).cell (p := ⟨b, off + k * 2 + 1, none⟩) hbb).trans c2
      have hki : (k : Int) < (m0 : Int) := by omega
      clear hc hf c1 c2 hV hci hln hbb
      by_cases h1000 : 1000 < ln
      · have hi : (1000 : Int) < (ln : Int) := by omega
        go_wp2
        go_ret
        exact ⟨rfl, below_of_none (grown_trans' G0.out (grown_alloc _ _ _))⟩
      have hi : (ln : Int) ≤ 1000 := by omega
      have HLN := Lib.hid (show ln ≤ 1000 by omega)
      obtain ⟨en, hen⟩ : ∃ en, (wrF (c, l)).2 = en := ⟨_, rfl⟩
      obtain ⟨bs, hbs⟩ : ∃ bs, (wrF (c, l)).1 = bs := ⟨_, rfl⟩
      have HEN := Lib.hid hen
      have HBS := Lib.hid hbs
      have HBL := Lib.hid (show bs.length ≤ 2003 by rw [← hbs]; have := wrF_len c l ln L0.out; have := HLN.out; omega)
      obtain ⟨bn, hbn⟩ : ∃ bn, bs.length = bn := ⟨_, rfl⟩
      have HBN := Lib.hid hbn
      obtain ⟨g9, hg9⟩ : ∃ x, wr.heap.size = x := ⟨_, rfl⟩
      obtain ⟨wa, hwa⟩ : ∃ x, wr.alloc (.cells #[.int .i64 c, .slice V ln cv] 24) = x := ⟨_, rfl⟩
      have GW := Lib.hid (show wr.grownBy wa none by rw [← hwa]; exact grown_alloc _ _ _)
      have CA := Lib.hid (show CB wa g9 24 [.int .i64 c, .slice V ln cv] by rw [← hwa, ← hg9]; exact CB.new _ _ _)
      have HG9 := Lib.hid (show w.heap.size ≤ g9 by rw [← hg9]; exact G0.out.size)
      have HGS := Lib.hid (show wr.heap.size = g9 from hg9)
      have GA := Lib.hid (grown_trans' G0.out GW.out)
      have d1 : wa.cell? ⟨g9, 1, none⟩ = some (.slice V ln cv) := CA.out.at_ rfl
      have d0 : wa.cell? ⟨g9, 0, none⟩ = some (.int .i64 c) := CA.out.at_ rfl
      have HW := Lib.hid (write_any wa c HC.out V l ln cv L0.out ((HV.out.below (below_rw GA.out (Nat.le_refl _))).more GA.out.size) (by omega))
      rw [hen, hbs] at HW
      clear hen hbs hbn h1000 hlm
      by_cases he : en = 0
      · subst he
        obtain ⟨k1, k2, k3, k4⟩ := wrF_ok HEN.out
        have HSN := Lib.hid (show scan (bb ++ bs) = (fs ++ [(c, l)], [], 0) by rw [← HBS.out, k4]; exact scan_snoc HSC.out ⟨k1, k2⟩ k3)
        have HBL5 := Lib.hid (show bs.length ≤ 515 by rw [← HBS.out, k4, frB_length]; exact Nat.add_le_add_right k3 3)
        clear k1 k2 k3 k4
        go_wp2_with (go_at_call 12
                     refine HW.out.mono ?_
                     rintro e w3 ⟨vb, rfl, o3, g3⟩
                     obtain ⟨A3, c3, rfl, r3, -⟩ := o3.shape
                     rw [HBN.out]
                     have g03 := grown_trans' GW.out g3
                     have P3 := Lib.hid (show Pc w w3 r g9 [.int .i64 c, .slice V ln cv] (.slice A3 bn c3) bs u6 bb u7 fs from
                       ⟨grown_trans' GA.out g3, R0.out.made g03, CA.out.kept g3, HG9.out, by rw [← HBN.out]; exact OwnB.base_ o3 GA.out.size, AL.out.none_ g03, RI0.out.mod (Mod.made (S := fun _ => False) g03) (fun _ _ h => h) G0.out.size (fun _ _ h => h),
                         fun z hz e => by have h1 := (o3.lt z (by rw [← hz]; cases A3 <;> rfl)).1; have h2 := (AL.out.lt z e).2; have := GW.out.size; omega, fun e => by have := (RI0.out.lt _ e).2; have := HGS.out; omega⟩)
                     clear o3 r3 g3 g03)
        have HEND := Lib.hid (show ∀ x va vr, Pc w x r g9 [.int .i64 c, .slice V ln cv] (.slice A3 bn c3) bs va (bb ++ bs) vr (fs ++ [(c, l)]) → PcRel w r m0 va vr (.int .i64 ((k : Int) + 1)) x from
          fun x va vr h => ⟨k + 1, _, _, by go_num, by omega, h.gr, h.rd, h.al, h.ri, by rw [List.length_append]; have := HKL.out; have := HBL5.out; omega, by rw [List.length_append]; have := HKL.out; simp; omega, HSN.out⟩)
        obtain ⟨wd, hwd⟩ : ∃ x, w3.drew = x := ⟨_, rfl⟩
        have P0 := Lib.hid (P3.out.made (show w3.grownBy wd none by rw [← hwd]; exact grown_drew (World.grownBy.refl _ none)))
        clear d0 d1 hg9 hwa P3
        refine helds_begin (fun x => CB x g9 24 [.int .i64 c, .slice V ln cv]) (by kernel_rfl) (by rw [hwd]; exact P0.out.var) (fun hs0 => ?_)
        try rw [hwd] at hs0
        try rw [hwd]
        refine helds_take (i := 0) (d := some 49) (v := ?vp15_1) (by assumption) rfl rfl (by kernel_rfl) (fun _ _ _ h => h) ?yp15_1 ?_; case yp15_1 => (refine Or.inl ⟨rfl, fun wx hS => ?_⟩; go_simp; try with_reducible rfl)
        try simp only [Act.put, List.setIfInBounds_toArray, List.set_cons_zero, List.set_cons_succ]
        refine helds_take (i := 1) (d := some 50) (v := ?vp15_2) (by assumption) rfl rfl (by kernel_rfl) (fun _ _ _ h => h) ?yp15_2 ?_; case yp15_2 => (refine Or.inl ⟨rfl, fun wx hS => ?_⟩; go_simp; try with_reducible rfl)
        try simp only [Act.put, List.setIfInBounds_toArray, List.set_cons_zero, List.set_cons_succ]
        refine helds_take (i := 3) (d := some 52) (v := ?vp15_3) (by assumption) rfl rfl (by kernel_rfl) (fun _ _ _ h => h) ?yp15_3 ?_; case yp15_3 => (refine Or.inl ⟨rfl, fun wx hS => ?_⟩; go_simp; try with_reducible rfl)
        try simp only [Act.put, List.setIfInBounds_toArray, List.set_cons_zero, List.set_cons_succ]
        refine helds_take (i := 4) (d := some 53) (v := _) (by assumption) rfl rfl (by kernel_rfl) (fun _ _ _ h => h) (yields_loadCC (p := [.int .i64 c, .slice V ln cv]) aggF (.tmp 9) rfl rfl (fun _ hx => hx) rfl (by simp) rfl) ?_
        try simp only [Act.put, List.setIfInBounds_toArray, List.set_cons_zero, List.set_cons_succ]
        refine helds_two (i := 2) (j := 5) (by kernel_rfl) rfl rfl rfl rfl (fun K hK => ?_) (fun K hK => ?_)
        · obtain ⟨Ab, cb, hvb, rb, -⟩ := P0.out.b.shape
          rw [HBN.out] at hvb
          injection hvb with e1 _ e3
          subst e1 e3
          refine wp_appB (d := some 51) byteT rfl (.tmp 49) (.tmp 50) rfl P0.out.al rb rfl (by rw [HBN.out]; rfl) (by have := HAL.out; have := HBL.out; omega) P0.out.gr.size ?_
          intro va_1 w_1 o_1 g_1x a_1
          have P_1 := Lib.hid (P0.out.al_ o_1 g_1x a_1)
          clear o_1 g_1x a_1 rb
          have hs_1 := P_1.out.var
          refine hK.out _ _ (by assumption) (fun _ => ?_)
          clear hK K
          try simp only [Act.put, List.setIfInBounds_toArray, List.set_cons_zero, List.set_cons_succ]
          refine helds_one (i := 5) rfl (by kernel_rfl) rfl (fun K hK => ?_)
          refine wp_lit1E (d := some 54) (e := 24) (zs := [.int .i64 0, .slice none 0 0]) (p := [.int .i64 c, .slice V ln cv]) rfl rfl Try.underlying33 aggF.hi zeroF rfl (by omega) (by omega) rfl ?_
          intro g_2 w_2 l_2 g_2x _
          have P_2 := Lib.hid (P_1.out.made g_2x)
          have L_2 := Lib.hid l_2
          clear l_2 g_2x
          have hs_2 := P_2.out.var
          refine hK.out _ _ (by assumption) (fun _ => ?_)
          clear hK K
          try simp only [Act.put, List.setIfInBounds_toArray, List.set_cons_zero, List.set_cons_succ]
          refine helds_one (i := 6) rfl (by kernel_rfl) rfl (fun K hK => ?_)
          refine wp_appRD (d := some 55) (f := (c, l)) (V := V) (c' := cv) rfl (.tmp 52) (.tmp 54) rfl P_2.out.ri (HV.out.below (below_rw P_2.out.gr (Nat.le_refl _))) (ad := ⟨g_2, 0, none⟩) (c := 1) (L_2.out.at_ rfl) (by rw [L0.out]; exact L_2.out.at_ (i := 1) rfl) rfl rfl (by have := HRL.out; omega) P_2.out.gr.size (Nat.le_refl _) ?_
          intro vr_3 w_3 o_3 g_3x a_3
          have P_3 := Lib.hid (P_2.out.right o_3 g_3x a_3)
          clear o_3 g_3x a_3
          have hs_3 := P_3.out.var
          refine hK.out _ _ (by assumption) (fun _ => ?_)
          clear hK K
          try simp only [Act.put, List.setIfInBounds_toArray, List.set_cons_zero, List.set_cons_succ]
          refine helds_take (i := 7) (d := some 6) (v := ?vp15_5) (by assumption) rfl rfl (by kernel_rfl) (fun _ _ _ h => h) ?yp15_5 ?_; case yp15_5 => (refine Or.inl ⟨rfl, fun wx hS => ?_⟩; go_simp; try with_reducible rfl)
          try simp only [Act.put, List.setIfInBounds_toArray, List.set_cons_zero, List.set_cons_succ]
          refine helds_take (i := 8) (d := some 7) (v := ?vp15_6) (by assumption) rfl rfl (by kernel_rfl) (fun _ _ _ h => h) ?yp15_6 ?_; case yp15_6 => (refine Or.inl ⟨rfl, fun wx hS => ?_⟩; go_simp; try with_reducible rfl)
          try simp only [Act.put, List.setIfInBounds_toArray, List.set_cons_zero, List.set_cons_succ]
          refine held_end (by kernel_rfl) ?_ _
          have PE := Lib.hid (P_3.out)
          clear hs_1 hs_2 hs_3
          go_wp2
          go_roundw
          case rel => exact HEND.out _ _ _ PE.out
          case measure => simp [intOf]; omega
        · refine wp_lit1E (d := some 54) (e := 24) (zs := [.int .i64 0, .slice none 0 0]) (p := [.int .i64 c, .slice V ln cv]) rfl rfl Try.underlying33 aggF.hi zeroF rfl (by omega) (by omega) rfl ?_
          intro g_1 w_1 l_1 g_1x _
          have P_1 := Lib.hid (P0.out.made g_1x)
          have L_1 := Lib.hid l_1
          clear l_1 g_1x
          have hs_1 := P_1.out.var
          refine hK.out _ _ (by assumption) (fun _ => ?_)
          clear hK K
          try simp only [Act.put, List.setIfInBounds_toArray, List.set_cons_zero, List.set_cons_succ]
          refine helds_one (i := 2) rfl (by kernel_rfl) rfl (fun K hK => ?_)
          obtain ⟨Ab, cb, hvb, rb, -⟩ := P_1.out.b.shape
          rw [HBN.out] at hvb
          injection hvb with e1 _ e3
          subst e1 e3
          refine wp_appB (d := some 51) byteT rfl (.tmp 49) (.tmp 50) rfl P_1.out.al rb rfl (by rw [HBN.out]; rfl) (by have := HAL.out; have := HBL.out; omega) P_1.out.gr.size ?_
          intro va_2 w_2 o_2 g_2x a_2
          have P_2 := Lib.hid (P_1.out.al_ o_2 g_2x a_2)
          have L_2 := Lib.hid (CB.mod L_1.out (Mod.of_grown g_2x) (fun e => P_1.out.al.ne_cells L_1.out (by decide) e.symm))
          clear o_2 g_2x a_2 rb
          have hs_2 := P_2.out.var
          refine hK.out _ _ (by assumption) (fun _ => ?_)
          clear hK K
          try simp only [Act.put, List.setIfInBounds_toArray, List.set_cons_zero, List.set_cons_succ]
          refine helds_one (i := 6) rfl (by kernel_rfl) rfl (fun K hK => ?_)
          refine wp_appRD (d := some 55) (f := (c, l)) (V := V) (c' := cv) rfl (.tmp 52) (.tmp 54) rfl P_2.out.ri (HV.out.below (below_rw P_2.out.gr (Nat.le_refl _))) (ad := ⟨g_1, 0, none⟩) (c := 1) (L_2.out.at_ rfl) (by rw [L0.out]; exact L_2.out.at_ (i := 1) rfl) rfl rfl (by have := HRL.out; omega) P_2.out.gr.size (Nat.le_refl _) ?_
          intro vr_3 w_3 o_3 g_3x a_3
          have P_3 := Lib.hid (P_2.out.right o_3 g_3x a_3)
          clear o_3 g_3x a_3
          have hs_3 := P_3.out.var
          refine hK.out _ _ (by assumption) (fun _ => ?_)
          clear hK K
          try simp only [Act.put, List.setIfInBounds_toArray, List.set_cons_zero, List.set_cons_succ]
          refine helds_take (i := 7) (d := some 6) (v := ?vp15_7) (by assumption) rfl rfl (by kernel_rfl) (fun _ _ _ h => h) ?yp15_7 ?_; case yp15_7 => (refine Or.inl ⟨rfl, fun wx hS => ?_⟩; go_simp; try with_reducible rfl)
          try simp only [Act.put, List.setIfInBounds_toArray, List.set_cons_zero, List.set_cons_succ]
          refine helds_take (i := 8) (d := some 7) (v := ?vp15_8) (by assumption) rfl rfl (by kernel_rfl) (fun _ _ _ h => h) ?yp15_8 ?_; case yp15_8 => (refine Or.inl ⟨rfl, fun wx hS => ?_⟩; go_simp; try with_reducible rfl)
          try simp only [Act.put, List.setIfInBounds_toArray, List.set_cons_zero, List.set_cons_succ]
          refine held_end (by kernel_rfl) ?_ _
          have PE := Lib.hid (P_3.out)
          clear hs_1 hs_2 hs_3
          go_wp2
          go_roundw
          case rel => exact HEND.out _ _ _ PE.out
          case measure => simp [intOf]; omega
      · have hne : (en == 0) = false := by rw [beq_eq_false_iff_ne]; exact he
        go_wp2_with (go_at_call 12
                     refine HW.out.mono ?_
                     rintro e w3 ⟨vb, rfl, o3, g3⟩
                     have g03 := Lib.hid (grown_trans' GW.out g3)
                     have G3 := Lib.hid (grown_trans' GA.out g3)
                     clear o3 g3)
        go_roundw
        case rel => exact ⟨k + 1, bb, fs, by go_num, by omega, G3.out, R0.out.made g03.out, AL.out.none_ g03.out, RI0.out.mod (Mod.made (S := fun _ => False) g03.out) (fun _ _ h => h) G0.out.size (fun _ _ h => h), by have := HKL.out; omega, by have := HKL.out; omega, HSC.out⟩
        case measure => simp [intOf]; omega
    · obtain rfl : k = m0 := by omega
      clear hlt
      have ALs := AL.out.shape
      obtain ⟨A6, c6, hv6, r6, -⟩ := ALs
      subst hv6
      obtain ⟨w2, hw2⟩ : ∃ x, wr = x := ⟨_, rfl⟩
      have S3 := Lib.hid (show GtRel w w2 r m1 fs (.slice A6 bb.length c6) (.slice (some ⟨w2.heap.size, 0, none⟩) 0 0) (.int .i64 0) (w2.alloc (.cells #[] 24)) by
        subst hw2
        exact ⟨A6, c6, 0, bb, [], [], .slice none 0 0, [], rfl, rfl, by omega, fun h => by omega, by have := HAL.out; omega, Nat.le_refl _, by have := HAL.out; simp; omega, Mod.made (grown_alloc _ _ _), r6.alloc (Nat.le_refl _) _, fun a ha _ => ⟨fun e => AL.out.ne_cells R0.out.2.1 (by decide) (by subst ha; rw [← e]; rfl), by simp [Value.ownBlock]⟩,
          R0.out.made (grown_alloc _ _ _), fun g hg => by simp [Value.ownBlock] at hg, OwnF.new0 wr _ _ (Nat.le_refl _), scan_nil, HSC.out⟩)
      have G2 := Lib.hid (show w.grownBy w2 none by rw [← hw2]; exact G0.out)
      have HRW := Lib.hid (show w.heap.size ≤ r ∧ r < w2.heap.size by rw [← hw2]; exact R0.out.lt)
      have RI2 := Lib.hid (show RowF w2 w.heap.size w.heap.size u7 fs by rw [← hw2]; exact RI0.out)
      have RR2 := Lib.hid (show RD w2 w.heap.size r (.slice none 0 0) [] 0 by rw [← hw2]; exact R0.out)
      obtain ⟨bbn, hbbn⟩ : ∃ x, bb.length = x := ⟨_, rfl⟩
      rw [hbbn] at S3
      rw [hbbn]
      clear r6 HKL HAL HRL hbbn
      go_wp2
      generalize hwl : w2.alloc (.cells #[] 24) = wl at *
      clear hwl hw2
      go_loopw [6, 12, 13] (fun s6 s12 s13 wq => GtRel w w2 r m1 fs s6 s12 s13 wq) (fun _ _ s13 _ => m1 + 1 - (intOf s13).toNat)
      case atStart => exact S3.out
      case round =>
        obtain ⟨A, c, n, d, done, acc, v, p, rfl, rfl, hnm, hnd, hdl, hal, hdd, hM, hRB, hAP, hRD, hV, hOG, hsd, hsa⟩ := hrel
        have M0 := Lib.hid hM
        have RD0 := Lib.hid hRB
        have AP0 := Lib.hid hAP
        have R0 := Lib.hid hRD
        have V0 := Lib.hid hV
        have OG0 := Lib.hid hOG
        have SD := Lib.hid hsd
        have SA := Lib.hid hsa
        have HAL := Lib.hid hal
        have HDD := Lib.hid hdd
        have HDL := Lib.hid (show d.length ≤ 20000 from hdl)
        clear hM hRB hAP hRD hV hOG hsd hsa hal hdd hdl
        by_cases hd0 : 0 < d.length
        · have hn1 : n ≤ m1 := by
            apply Classical.byContradiction
            intro e
            rw [hnd (by omega)] at hd0
            simp at hd0
          obtain ⟨b, off, rfl, hbb, -⟩ := RD0.out.open_ hd0
          obtain ⟨dn, hdn⟩ : ∃ x, d.length = x := ⟨_, rfl⟩
          have DN := Lib.hid hdn
          have hdcap : dn ≤ c := by rw [← hdn]; exact RD0.out.1
          have hccap : c ≤ 9223372036854775807 := RD0.out.2.1
          have hdn2 : dn ≤ 20000 := by rw [← hdn]; exact HDL.out
          rw [hdn] at hd0 ⊢
          have hd0i : (0 : Int) < (dn : Int) := by omega
          clear hdn hnd hbb
          by_cases hnm1 : n < m1
          · have hni : (n : Int) < (m1 : Int) := by omega
            obtain ⟨b1, off1, rfl, hb1, hc1⟩ := H1.out.open_ (by have := M1.out; omega)
            obtain ⟨cu, hcu⟩ : ∃ x, x = cuts[n]'(by have := M1.out; omega) := ⟨_, rfl⟩
            have q1 : wr.cell? ⟨b1, off1 + n, none⟩ = some (.int .i64 cu) := by
              rw [hcu]
              exact (World.cell?_of_block (M0.out.block b1 (by have := HRW.out; omega) (fun e => by have := HRW.out; omega))).trans ((World.cell?_of_block (G2.out.block b1 hb1 (fun e => by cases e))).trans (hc1 n _))
            obtain ⟨q, hq, hb16⟩ := and_low cu 16 (by decide)
            have hand : bits .and .i64 cu 65535 = (q : Int) := hb16
            obtain ⟨K, hK⟩ : ∃ x, q % (dn + 1) = x := ⟨_, rfl⟩
            have HKD := Lib.hid (show K ≤ dn by rw [← hK]; have := Nat.mod_lt q (show 0 < dn + 1 by omega); omega)
            have hrem : Int.tmod (q : Int) ((dn : Int) + 1) = (K : Int) := by rw [← hK]; exact_mod_cast (Int.ofNat_tmod q (dn + 1)).symm
            have hw1 : IntKind.i64.wrap ((dn : Int) + 1) = (dn : Int) + 1 := by simp [IntKind.wrap, IntKind.bits, IntKind.signed]; omega
            have hwk : IntKind.i64.wrap (K : Int) = (K : Int) := by have := HKD.out; simp [IntKind.wrap, IntKind.bits, IntKind.signed]; omega
            have hwn : IntKind.i64.wrap ((n : Int) + 1) = (n : Int) + 1 := by simp [IntKind.wrap, IntKind.bits, IntKind.signed]; omega
            clear hcu hb16 hK hc1 hb1 hq
            have DTK := Lib.hid (show (d.take K).length = K by rw [List.length_take, DN.out]; have := HKD.out; omega)
            obtain ⟨f2, p2, hfd, hs2, hinc, hf2l⟩ := feed_piece SD.out SA.out K
            have FD := Lib.hid hfd
            have HS2 := Lib.hid hs2
            have HINC := Lib.hid hinc
            have HF2 := Lib.hid (show f2.length ≤ 515 + K by have := hinc.small; rw [DTK.out] at hf2l; omega)
            have hcut := RD0.out.cut (k := K) (by rw [DN.out]; exact HKD.out)
            obtain ⟨qa, hqa⟩ : ∃ qa, (if c = K then some (⟨b, off, none⟩ : Addr) else some ⟨b, off + K, none⟩) = some qa := by split <;> exact ⟨_, rfl⟩
            have DC := Lib.hid (show RB wr w2.heap.size (some qa) (d.drop K) (c - K) by
              rw [show (if c = K then some (⟨b, off, none⟩ : Addr) else (some (⟨b, off, none⟩ : Addr)).map (·.add K)) = some qa by rw [← hqa, Option.map_some, Addr.add_lit]] at hcut
              exact hcut)
            have QB := Lib.hid (show qa.block = b by split at hqa <;> (injection hqa with hqa; rw [← hqa]))
            have DLN := Lib.hid (show (d.drop K).length = dn - K by rw [List.length_drop, DN.out])
            have HFO := Lib.hid (feed_open wr w.heap.size r v p R0.out HINC.out (some ⟨b, off, none⟩) (d.take K) K c DTK.out ((RD0.out.head K).more M0.out.size) (fun a ha hl => AP0.out a ha (by rw [DN.out]; omega)) (by have := HKD.out; have := HDL.out; omega))
            rw [FD.out] at HFO
            have hkd := HKD.out
            have hkc : K ≤ c := by omega
            have hkci : (K : Int) ≤ (c : Int) := by omega
            have hkdi : (K : Int) ≤ (dn : Int) := by omega
            clear hfd hs2 hinc hf2l hcut
            go_wp2_with (go_at_call 15
                         refine HFO.out.mono ?_
                         rintro e w6 ⟨vf, v6, rfl, o6, r6, m6, hv6⟩
                         obtain ⟨A6, c6, hvf, -, -⟩ := o6.shape
                         have O6 := Lib.hid o6
                         have R6 := Lib.hid r6
                         have M6 := Lib.hid m6
                         have V6 := Lib.hid hv6
                         obtain ⟨f2n, hf2n⟩ : ∃ x, f2.length = x := ⟨_, rfl⟩
                         have LF := Lib.hid hf2n
                         rw [hf2n] at hvf
                         subst hvf
                         clear o6 r6 m6 hv6 hf2n HFO)
            obtain ⟨wd6, hwd6⟩ : ∃ x, w6.drew = x := ⟨_, rfl⟩
            have GD6 := Lib.hid (show w6.grownBy wd6 none by rw [← hwd6]; exact grown_drew (World.grownBy.refl _ none))
            have ST := Lib.hid (got_step HRW.out M0.out R0.out V0.out OG0.out DC.out (AP0.out.cut (fun bb hbb hl => ⟨by rw [DLN.out] at hl; rw [DN.out]; omega, ⟨b, off, none⟩, rfl, by injection hbb with hbb; rw [← hbb]; exact QB.out⟩)) O6.out R6.out M6.out V6.out GD6.out)
            obtain ⟨x1, x2, x3, x4, x5, x6, x7⟩ := ST.out
            have MG6 := Lib.hid x1
            have MG := Lib.hid M0.out
            have R6d := Lib.hid x2
            have V6d := Lib.hid x3
            have OGd := Lib.hid x4
            rw [← LF.out] at x5
            have O6d := Lib.hid x5
            have DCd := Lib.hid x6
            have AP6 := Lib.hid x7
            have HLN2 := Lib.hid (show acc.length + f2.length ≤ 100000 by have := HAL.out; have := HF2.out; have := HDL.out; have := HDD.out; omega)
            clear x1 x2 x3 x4 x5 x6 x7 ST GD6
            refine helds_begin (fun _ => True) (by kernel_rfl) trivial (fun _ => ?_)
            try rw [hwd6]
            refine helds_take (i := 0) (d := some 88) (v := ?vp27_1) trivial rfl rfl (by kernel_rfl) (fun _ _ _ h => h) ?yp27_1 ?_; case yp27_1 => (refine Or.inl ⟨rfl, fun wx hS => ?_⟩; go_simp; try with_reducible rfl)
            try simp only [Act.put, List.setIfInBounds_toArray, List.set_cons_zero, List.set_cons_succ]
            refine helds_take (i := 1) (d := some 89) (v := ?vp27_2) trivial rfl rfl (by kernel_rfl) (fun _ _ _ h => h) ?yp27_2 ?_; case yp27_2 => (refine Or.inl ⟨rfl, fun wx hS => ?_⟩; go_simp; try with_reducible rfl)
            try simp only [Act.put, List.setIfInBounds_toArray, List.set_cons_zero, List.set_cons_succ]
            refine helds_take (i := 3) (d := some 91) (v := ?vp27_3) trivial rfl rfl (by kernel_rfl) (fun _ _ _ h => h) ?yp27_3 ?_; case yp27_3 => (refine Or.inl ⟨rfl, fun wx hS => ?_⟩; go_simp; try with_reducible rfl)
            try simp only [Act.put, List.setIfInBounds_toArray, List.set_cons_zero, List.set_cons_succ]
            refine helds_take (i := 4) (d := some 92) (v := ?vp27_4) trivial rfl rfl (by kernel_rfl) (fun _ _ _ h => h) ?yp27_4 ?_; case yp27_4 => (refine Or.inl ⟨rfl, fun wx hS => ?_⟩; go_simp; try with_reducible rfl)
            try simp only [Act.put, List.setIfInBounds_toArray, List.set_cons_zero, List.set_cons_succ]
            refine helds_take (i := 5) (d := some 93) (v := ?vp27_5) trivial rfl rfl (by kernel_rfl) (fun _ _ _ h => h) ?yp27_5 ?_; case yp27_5 => (refine Or.inl ⟨rfl, fun wx hS => ?_⟩; go_simp; try with_reducible rfl)
            try simp only [Act.put, List.setIfInBounds_toArray, List.set_cons_zero, List.set_cons_succ]
            refine helds_one (i := 2) rfl (by kernel_rfl) rfl (fun K hK => ?_)
            refine wp_appOOD (d := some 90) rfl (.tmp 88) (.tmp 89) rfl OGd.out O6d.out (by have := MG.out.size; omega) rfl (by rw [LF.out]; rfl) (by have := HLN2.out; omega) (by have := MG6.out.size; omega) ?_
            intro v8 w8 o8 g8 a8
            have O8 := Lib.hid o8
            have G8 := Lib.hid g8
            clear o8 g8 a8
            refine hK.out _ _ trivial (fun _ => ?_)
            clear hK K
            try simp only [Act.put, List.setIfInBounds_toArray, List.set_cons_zero, List.set_cons_succ]
            refine helds_take (i := 6) (d := some 12) (v := ?vp27_6) trivial rfl rfl (by kernel_rfl) (fun _ _ _ h => h) ?yp27_6 ?_; case yp27_6 => (refine Or.inl ⟨rfl, fun wx hS => ?_⟩; go_simp; try with_reducible rfl)
            try simp only [Act.put, List.setIfInBounds_toArray, List.set_cons_zero, List.set_cons_succ]
            refine helds_take (i := 7) (d := some 6) (v := ?vp27_7) trivial rfl rfl (by kernel_rfl) (fun _ _ _ h => h) ?yp27_7 ?_; case yp27_7 => (refine Or.inl ⟨rfl, fun wx hS => ?_⟩; go_simp; try with_reducible rfl)
            try simp only [Act.put, List.setIfInBounds_toArray, List.set_cons_zero, List.set_cons_succ]
            refine held_end (by kernel_rfl) ?_ _
            skip
            have FIN := Lib.hid (got_app MG6.out R6d.out OGd.out DCd.out G8.out)
            go_wp2
            go_roundw
            case rel =>
              obtain ⟨y1, y2, y3⟩ := FIN.out
              refine ⟨some qa, c - K, n + 1, d.drop K, done ++ d.take K, acc ++ f2, v6, p2, by rw [DLN.out], by go_num, by omega, fun h => ?_, by rw [DLN.out]; have := HDL.out; omega, ?_, ?_, y1, y3, AP6.out, y2, V6d.out, O8.out, HS2.out, ?_⟩
              · exact List.eq_nil_of_length_eq_zero (by rw [DLN.out]; omega)
              · rw [List.length_append, List.length_append, DTK.out]; have := scan_cnt HS2.out; rw [List.length_append, List.length_append, DTK.out] at this; exact this
              · rw [List.length_append, DTK.out, DLN.out]; have := HDD.out; have := DN.out; omega
              · rw [List.append_assoc, List.take_append_drop]; exact SA.out
            case measure => first | (simp [intOf]; done) | (simp [intOf]; omega)

          · obtain rfl : n = m1 := by omega
            obtain ⟨K, hK⟩ : ∃ x, dn = x := ⟨_, rfl⟩
            have HKD := Lib.hid (show K ≤ dn by omega)
            have HKE := Lib.hid hK
            have hwn : IntKind.i64.wrap ((n : Int) + 1) = (n : Int) + 1 := by simp [IntKind.wrap, IntKind.bits, IntKind.signed]; omega
            have hKi : (dn : Int) = (K : Int) := by omega
            clear hK
            have DTK := Lib.hid (show (d.take K).length = K by rw [List.length_take, DN.out]; have := HKD.out; omega)
            obtain ⟨f2, p2, hfd, hs2, hinc, hf2l⟩ := feed_piece SD.out SA.out K
            have FD := Lib.hid hfd
            have HS2 := Lib.hid hs2
            have HINC := Lib.hid hinc
            have HF2 := Lib.hid (show f2.length ≤ 515 + K by have := hinc.small; rw [DTK.out] at hf2l; omega)
            have hcut := RD0.out.cut (k := K) (by rw [DN.out]; exact HKD.out)
            obtain ⟨qa, hqa⟩ : ∃ qa, (if c = K then some (⟨b, off, none⟩ : Addr) else some ⟨b, off + K, none⟩) = some qa := by split <;> exact ⟨_, rfl⟩
            have DC := Lib.hid (show RB wr w2.heap.size (some qa) (d.drop K) (c - K) by
              rw [show (if c = K then some (⟨b, off, none⟩ : Addr) else (some (⟨b, off, none⟩ : Addr)).map (·.add K)) = some qa by rw [← hqa, Option.map_some, Addr.add_lit]] at hcut
              exact hcut)
            have QB := Lib.hid (show qa.block = b by split at hqa <;> (injection hqa with hqa; rw [← hqa]))
            have DLN := Lib.hid (show (d.drop K).length = dn - K by rw [List.length_drop, DN.out])
            have HFO := Lib.hid (feed_open wr w.heap.size r v p R0.out HINC.out (some ⟨b, off, none⟩) (d.take K) K c DTK.out ((RD0.out.head K).more M0.out.size) (fun a ha hl => AP0.out a ha (by rw [DN.out]; omega)) (by have := HKD.out; have := HDL.out; omega))
            rw [FD.out] at HFO
            have hkd := HKD.out
            have hkc : K ≤ c := by omega
            have hkci : (K : Int) ≤ (c : Int) := by omega
            have hkdi : (K : Int) ≤ (dn : Int) := by omega
            clear hfd hs2 hinc hf2l hcut
            go_wp2_with (go_at_call 15
                         refine HFO.out.mono ?_
                         rintro e w6 ⟨vf, v6, rfl, o6, r6, m6, hv6⟩
                         obtain ⟨A6, c6, hvf, -, -⟩ := o6.shape
                         have O6 := Lib.hid o6
                         have R6 := Lib.hid r6
                         have M6 := Lib.hid m6
                         have V6 := Lib.hid hv6
                         obtain ⟨f2n, hf2n⟩ : ∃ x, f2.length = x := ⟨_, rfl⟩
                         have LF := Lib.hid hf2n
                         rw [hf2n] at hvf
                         subst hvf
                         clear o6 r6 m6 hv6 hf2n HFO)
            obtain ⟨wd6, hwd6⟩ : ∃ x, w6.drew = x := ⟨_, rfl⟩
            have GD6 := Lib.hid (show w6.grownBy wd6 none by rw [← hwd6]; exact grown_drew (World.grownBy.refl _ none))
            have ST := Lib.hid (got_step HRW.out M0.out R0.out V0.out OG0.out DC.out (AP0.out.cut (fun bb hbb hl => ⟨by rw [DLN.out] at hl; rw [DN.out]; omega, ⟨b, off, none⟩, rfl, by injection hbb with hbb; rw [← hbb]; exact QB.out⟩)) O6.out R6.out M6.out V6.out GD6.out)
            obtain ⟨x1, x2, x3, x4, x5, x6, x7⟩ := ST.out
            have MG6 := Lib.hid x1
            have MG := Lib.hid M0.out
            have R6d := Lib.hid x2
            have V6d := Lib.hid x3
            have OGd := Lib.hid x4
            rw [← LF.out] at x5
            have O6d := Lib.hid x5
            have DCd := Lib.hid x6
            have AP6 := Lib.hid x7
            have HLN2 := Lib.hid (show acc.length + f2.length ≤ 100000 by have := HAL.out; have := HF2.out; have := HDL.out; have := HDD.out; omega)
            clear x1 x2 x3 x4 x5 x6 x7 ST GD6
            refine helds_begin (fun _ => True) (by kernel_rfl) trivial (fun _ => ?_)
            try rw [hwd6]
            refine helds_take (i := 0) (d := some 88) (v := ?vq27_1) trivial rfl rfl (by kernel_rfl) (fun _ _ _ h => h) ?yq27_1 ?_; case yq27_1 => (refine Or.inl ⟨rfl, fun wx hS => ?_⟩; go_simp; try with_reducible rfl)
            try simp only [Act.put, List.setIfInBounds_toArray, List.set_cons_zero, List.set_cons_succ]
            refine helds_take (i := 1) (d := some 89) (v := ?vq27_2) trivial rfl rfl (by kernel_rfl) (fun _ _ _ h => h) ?yq27_2 ?_; case yq27_2 => (refine Or.inl ⟨rfl, fun wx hS => ?_⟩; go_simp; try with_reducible rfl)
            try simp only [Act.put, List.setIfInBounds_toArray, List.set_cons_zero, List.set_cons_succ]
            refine helds_take (i := 3) (d := some 91) (v := ?vq27_3) trivial rfl rfl (by kernel_rfl) (fun _ _ _ h => h) ?yq27_3 ?_; case yq27_3 => (refine Or.inl ⟨rfl, fun wx hS => ?_⟩; go_simp; try with_reducible rfl)
            try simp only [Act.put, List.setIfInBounds_toArray, List.set_cons_zero, List.set_cons_succ]
            refine helds_take (i := 4) (d := some 92) (v := ?vq27_4) trivial rfl rfl (by kernel_rfl) (fun _ _ _ h => h) ?yq27_4 ?_; case yq27_4 => (refine Or.inl ⟨rfl, fun wx hS => ?_⟩; go_simp; try with_reducible rfl)
            try simp only [Act.put, List.setIfInBounds_toArray, List.set_cons_zero, List.set_cons_succ]
            refine helds_take (i := 5) (d := some 93) (v := ?vq27_5) trivial rfl rfl (by kernel_rfl) (fun _ _ _ h => h) ?yq27_5 ?_; case yq27_5 => (refine Or.inl ⟨rfl, fun wx hS => ?_⟩; go_simp; try with_reducible rfl)
            try simp only [Act.put, List.setIfInBounds_toArray, List.set_cons_zero, List.set_cons_succ]
            refine helds_one (i := 2) rfl (by kernel_rfl) rfl (fun K hK => ?_)
            refine wp_appOOD (d := some 90) rfl (.tmp 88) (.tmp 89) rfl OGd.out O6d.out (by have := MG.out.size; omega) rfl (by rw [LF.out]; rfl) (by have := HLN2.out; omega) (by have := MG6.out.size; omega) ?_
            intro v8 w8 o8 g8 a8
            have O8 := Lib.hid o8
            have G8 := Lib.hid g8
            clear o8 g8 a8
            refine hK.out _ _ trivial (fun _ => ?_)
            clear hK K
            try simp only [Act.put, List.setIfInBounds_toArray, List.set_cons_zero, List.set_cons_succ]
            refine helds_take (i := 6) (d := some 12) (v := ?vq27_6) trivial rfl rfl (by kernel_rfl) (fun _ _ _ h => h) ?yq27_6 ?_; case yq27_6 => (refine Or.inl ⟨rfl, fun wx hS => ?_⟩; go_simp; try with_reducible rfl)
            try simp only [Act.put, List.setIfInBounds_toArray, List.set_cons_zero, List.set_cons_succ]
            refine helds_take (i := 7) (d := some 6) (v := ?vq27_7) trivial rfl rfl (by kernel_rfl) (fun _ _ _ h => h) ?yq27_7 ?_; case yq27_7 => (refine Or.inl ⟨rfl, fun wx hS => ?_⟩; go_simp; try with_reducible rfl)
            try simp only [Act.put, List.setIfInBounds_toArray, List.set_cons_zero, List.set_cons_succ]
            refine held_end (by kernel_rfl) ?_ _
            skip
            have FIN := Lib.hid (got_app MG6.out R6d.out OGd.out DCd.out G8.out)
            go_wp2
            go_roundw
            case rel =>
              obtain ⟨y1, y2, y3⟩ := FIN.out
              refine ⟨some qa, c - K, n + 1, d.drop K, done ++ d.take K, acc ++ f2, v6, p2, by rw [DLN.out], by go_num, by omega, fun h => ?_, by rw [DLN.out]; have := HDL.out; omega, ?_, ?_, y1, y3, AP6.out, y2, V6d.out, O8.out, HS2.out, ?_⟩
              · exact List.eq_nil_of_length_eq_zero (by rw [DLN.out]; have := HKE.out; omega)
              · rw [List.length_append, List.length_append, DTK.out]; have := scan_cnt HS2.out; rw [List.length_append, List.length_append, DTK.out] at this; exact this
              · rw [List.length_append, DTK.out, DLN.out]; have := HDD.out; have := DN.out; omega
              · rw [List.append_assoc, List.take_append_drop]; exact SA.out
            case measure => first | (simp [intOf]; done) | (simp [intOf]; omega)

        · obtain rfl : d = [] := List.eq_nil_of_length_eq_zero (by omega)
          have he := SA.out
          rw [List.append_nil, SD.out] at he
          obtain ⟨rfl, rfl⟩ : acc = fs ∧ p = [] := by injection he with e1 e2; injection e2 with e2 _; exact ⟨e1, e2⟩
          clear he
          have RIe := Lib.hid (RI2.out.mod M0.out (fun g hg e => by
            rcases e with e | e
            · exact RI2.out.ne_cells RR2.out.2.1 (by decide) (by rw [hg, e])
            · have := (RI2.out.lt g hg).2; omega) G2.out.size (fun g hg e => by have := HRW.out; have := G2.out.size; omega))
          obtain ⟨A7, c7, hv7, f7⟩ := RIe.out.shape (by have := M0.out.size; have := G2.out.size; omega)
          obtain ⟨A12, c12, hv12, f12, -⟩ := OG0.out.shape
          subst hv7 hv12
          have F7 := Lib.hid f7
          have F12 := Lib.hid f12
          have GE := Lib.hid (show w.grownBy wr none from ⟨M0.out.os.trans G2.out.os, M0.out.tape.trans G2.out.tape, M0.out.output.trans G2.out.output, Nat.le_trans G2.out.size M0.out.size, fun z hz hn => (M0.out.block z (Nat.lt_of_lt_of_le hz G2.out.size) (fun e => by have := HRW.out; have := G2.out.size; omega)).trans (G2.out.block z hz hn)⟩)
          obtain ⟨an, han⟩ : ∃ x, acc.length = x := ⟨_, rfl⟩
          have AN := Lib.hid han
          rw [han]
          clear f7 f12 RIe han
          go_wp2_with (first
            | (go_at_call 16; refine (same_any A12 A7 acc c12 c7 an an wr.heap.size wr AN.out AN.out F12.out F7.out (Nat.le_refl _)).mono ?_; rintro e w9 ⟨rfl, b9⟩; have G9 := Lib.hid (none_of_below b9 (Nat.le_refl _)); clear b9)
            | (go_at_call 17; refine (rest_any w9 _ _ _ _ _ (R0.out.made G9.out)).mono ?_; rintro e w10 ⟨rfl, rfl⟩))
          go_ret
          exact ⟨rfl, below_of_none (grown_trans' GE.out G9.out)⟩
end Go.Proofs.Ytajfaplaaafjiaa
