/- Texts made into bytes; what is told of a command that isn't done. -/
import Derived.Lib.AppendIntMem
import Derived.Lib.ItoaLen
import Derived.Test.YtlkchajkhplapaaGreatDoorShh
namespace Go.Proofs.YtlkchajkhplapaaGreatDoor
open Go.RowKit Go.Maps Go.WideMaps

section
variable {P : Program} {w : World} {ops : Array Oper} {rest : List Oper} {o : Oper} {a : Act} {Q : Exit → Act → World → Prop}
/-- '[]byte(s)'. -/
theorem run_convO {src : TypeId} (hs : Tryz.prog.underlying src = some .string) (s : ByteArray) (hl : s.size ≤ 70368744177664) (n : Nat) (hn : s.size = n) :
    ∃ A cap w', (convert src 29 (.string s)).run Tryz.prog w = .ok (.slice A n cap) w' ∧ OB w' (.slice A n cap) s.data.toList ∧ w.grownBy w' none ∧ ∀ g, (Value.slice A n cap).ownBlock = some g → w.heap.size ≤ g := by
  subst hn
  have hr := run_bytes_of_string (P := Tryz.prog) w src 29 5 s hs byteT.ht byteT.he
  have hge := grownCap_ge w s.size 0 5
  have hcm : grownCap w s.size 0 5 ≤ maxLen := grownCap_le_maxLen w s.size 0 5 (by unfold maxLen; omega)
  have hsz : (bytesRow s (grownCap w s.size 0 5)).size = grownCap w s.size 0 5 := by
    have : s.data.size = s.size := rfl
    simp [bytesRow]
    omega
  rw [hsz] at hr
  have hlen : s.data.toList.length = s.size := rfl
  have hblk : ∀ (W : World) (o : Obj), (W.alloc o).heap[W.heap.size]? = some o := fun W o => by
    show (W.heap.push _)[W.heap.size]? = _
    simp
  refine ⟨_, _, _, hr, ⟨_, _, rfl, ⟨by rw [hlen]; exact hge, hcm, .inr ⟨_, rfl, fun k u hu => ⟨by show w.heap.size < (w.drew.alloc _).heap.size; rw [World.size_alloc]; show w.heap.size < w.heap.size + 1; omega, ?_⟩⟩⟩, fun a ha => ?_⟩, ⟨rfl, rfl, rfl, by simp, fun j hj _ => Below.heap_alloc w.drew _ j hj⟩, fun g hg => ?_⟩
  · rw [Addr.add_lit, Nat.zero_add, cell_of_row _ w.heap.size k _ _ _ (hblk w.drew _), ← Array.getElem?_toList]
    have hk : k < s.data.toList.length := (List.getElem?_eq_some_iff.1 hu).1
    have ht : (bytesRow s (grownCap w s.size 0 5)).toList.take s.data.toList.length = bcells s.data.toList := by
      simp only [bytesRow, Array.toList_append, Array.toList_map]
      exact List.take_left' (by simp)
    have h1 : ((bytesRow s (grownCap w s.size 0 5)).toList.take s.data.toList.length)[k]? = some (.int .u8 (u.toNat : Int)) := by rw [ht, bcells_at, hu]; rfl
    rwa [List.getElem?_take_of_lt hk] at h1
  · injection ha with ha
    subst ha
    exact ⟨_, _, hblk w.drew _⟩
  · injection hg with hg
    exact Nat.le_of_eq hg
theorem wpList_convO {src : TypeId} (hs : Tryz.prog.underlying src = some .string) (hgd : o.guard = none) (x : Operand) (ho : o.op = .convert src 29 x) (s : ByteArray) (hl : s.size ≤ 70368744177664) (n : Nat) (hn : s.size = n) (hx : a.eval x = .string s)
    (h : ∀ A cap w', OB w' (.slice A n cap) s.data.toList → w.grownBy w' none → (∀ g, (Value.slice A n cap).ownBlock = some g → w.heap.size ≤ g) → wpList Tryz.prog ops Q rest (a.put o.dst (.slice A n cap)) w') : wpList Tryz.prog ops Q (o :: rest) a w := by
  refine wpList_plain hgd fun K hK => ?_
  obtain ⟨A, cap, w', hrun, h2, h3, h4⟩ := run_convO (w := w) hs s hl n hn
  unfold Oper.wp execOp
  simp only [ho, hx, Sem.run_bind, Sem.run_pure, Result.andThen_ok, hrun]
  exact hK _ _ (h A cap w' h2 h3 h4)
end
/-- The table of powers of ten is where the library looks for it. -/
def TI (w : World) : Prop := Lib.TabIs Tryz.prog w "internal/strconv.uint64pow10" .u64 Lib.pow10Tab
theorem TI.on {w w' : World} (h : TI w) (hg : w.grownBy w' none) : TI w' := Lib.tabBelow_of_tabIs h w' (below_of_none hg)
theorem outT : AggT Tryz.prog 57 3 := ⟨fun _ => by kernel_rfl, by kernel_rfl⟩
theorem grown_grow (w : World) (k : Nat) (os : Array Obj) : w.grownBy (Go.Sort.grow (w.drewN k) os) none := by
  refine ⟨rfl, rfl, rfl, ?_, fun j hj _ => ?_⟩
  · show w.heap.size ≤ (w.heap ++ os).size
    rw [Array.size_append]; omega
  · show (w.heap ++ os)[j]? = w.heap[j]?
    exact Array.getElem?_append_left hj
theorem itoa_any (w : World) (h : TI w) (e : Int) (he : Bd e) : Calls Tryz.prog 149 #[.int .i64 e] w fun r w' => ∃ t : ByteArray, r = .returned (.string t) ∧ t.data.toList = Lib.itoa e ∧ t.size ≤ 21 ∧ w.grownBy w' none := by
  obtain ⟨h1, h2⟩ := he
  refine (sh_strconv_Itoa e (by omega) (by omega) w h).mono ?_
  rintro r w' ⟨rfl, k, os, rfl⟩
  have hl := Lib.itoa_length_le e (by omega) (by omega)
  exact ⟨_, rfl, by simp, by show (Lib.itoa e).toArray.size ≤ 21; rw [List.size_toArray]; exact hl, grown_grow _ _ _⟩
def failT (c : List UInt8) (e : Int) : List UInt8 := c ++ [58, 32] ++ Lib.itoa e ++ [10]
theorem out_one (u v : Value) (k : Int) (hu : u.oneCell' = true) (hv : v.oneCell' = true) : ∀ x ∈ [u, v, .int .i64 k], x.oneCell' = true := by
  intro x hx
  simp only [List.mem_cons, List.not_mem_nil, or_false] at hx
  rcases hx with rfl | rfl | rfl
  · exact hu
  · exact hv
  · rfl
theorem over3 (a b c x y z : Value) : over [a, b, c] 0 [x, y, z] = [x, y, z] := rfl
/-- What is kept of the cell of an answer. -/
theorem out_store {w w' : World} {g : Nat} (hg : w.heap.size ≤ g) {wx : World} (h : w.grownBy wx none) (k : wx.grownBy w' (some g)) : w.grownBy w' none := none_rowB h k (fun z hz => by injection hz with hz; omega)
theorem OB.grown {w w' : World} {v : Value} {l : List UInt8} (h : OB w v l) {g : Nat} {cs : List Value} {t : TypeId} (hc : CB w g t cs) (ht : 5 ≠ t) (hg : w.grownBy w' (some g)) : OB w' v l :=
  h.chg (ts := [t]) ⟨_, hg, fun b e cs' t' sh hb => by
    injection e with e
    subst e
    have := hc.symm.trans hb
    injection this with this
    injection this with _ h2
    rw [← h2]; simp⟩ (by simpa using ht)
theorem app_bytes {s t : ByteArray} {a b : List UInt8} (hs : s.data.toList = a) (ht : t.data.toList = b) : (s ++ t).data.toList = a ++ b := by subst hs ht; simp
theorem app_size (s t : ByteArray) : (s ++ t).size = s.size + t.size := by
  show (s ++ t).data.size = s.data.size + t.data.size
  simp
set_option maxHeartbeats 1000000 in
theorem failed_any (w : World) (s : ByteArray) (c : List UInt8) (hc : s.data.toList = c) (hl : c.length ≤ 1000000) (e k : Int) (he : Bd e) (htab : TI w) :
    Calls Tryz.prog 116 #[.string s, .int .i64 e, .int .i64 k] w fun r w' => ∃ v, r = .returned (.agg #[.slice none 0 0, v, .int .i64 k]) ∧ OB w' v (failT c e) ∧ w.grownBy w' none := by
  have hsz : s.size ≤ 1000000 := by have : s.size = c.length := by rw [← hc]; rfl
                                    omega
  have HT := Lib.hid htab
  have HC := Lib.hid hc
  have HS := Lib.hid hsz
  have HE := Lib.hid he
  obtain ⟨wa, hwa⟩ : ∃ x, x = w.alloc (.cells #[.slice none 0 0, .slice none 0 0, .int .i64 0] 57) := ⟨_, rfl⟩
  have GA := Lib.hid (show w.grownBy wa none by rw [hwa]; exact grown_alloc _ _ _)
  have CA := Lib.hid (show CB wa w.heap.size 57 [.slice none 0 0, .slice none 0 0, .int .i64 0] by rw [hwa]; exact CB.new _ _ _)
  have HWA := Lib.hid hwa
  have z0 : ¬ 9223372036854775807 < s.size + 2 := by omega
  clear hwa htab he hc hl hsz
  go_enter Tryz.func116, Tryz.ntmps116
  go_wp2_with (first
    | (go_at_call 149
       rw [show w.alloc (.cells #[.slice none 0 0, .slice none 0 0, .int .i64 0] 57) = wa from HWA.out.symm]
       refine (itoa_any _ (HT.out.on GA.out) _ HE.out).mono ?_
       rintro r w1 ⟨t, rfl, ht1, ht2, g1⟩
       have G1 := Lib.hid (grown_trans' GA.out g1)
       have C1 := Lib.hid (CA.out.kept g1)
       have HT1 := Lib.hid ht1
       have HT2 := Lib.hid ht2
       have hsz := HS.out
       have e1 : (s ++ ⟨#[58, 32]⟩).size = s.size + 2 := app_size _ _
       have e2 : (s ++ ⟨#[58, 32]⟩ ++ t).size = s.size + 2 + t.size := by rw [app_size, e1]
       have e3 : (s ++ ⟨#[58, 32]⟩ ++ t ++ ⟨#[10]⟩).size = s.size + 2 + t.size + 1 := by rw [app_size, e2]; rfl
       have z1 : ¬ 9223372036854775807 < s.size + 2 + t.size := by omega
       have z2 : ¬ 9223372036854775807 < s.size + 2 + t.size + 1 := by omega
       have E3 := Lib.hid (show (s ++ ⟨#[58, 32]⟩ ++ t ++ ⟨#[10]⟩).size ≤ 70368744177664 by omega)
       obtain ⟨nn, hnn⟩ : ∃ nn, (s ++ ⟨#[58, 32]⟩ ++ t ++ ⟨#[10]⟩).size = nn := ⟨_, rfl⟩
       have HNN := Lib.hid hnn
       clear g1 ht1 ht2 hsz e1 e2 e3 hnn)
    | (refine wpList_convO Tryz.underlying9 rfl (.tmp 12) rfl (s ++ ⟨#[58, 32]⟩ ++ t ++ ⟨#[10]⟩) E3.out nn HNN.out (by first | rfl | go_simp) ?_
       intro A2 c2 w2 o2 g2 _
       have O2 := Lib.hid o2
       have G2 := Lib.hid (grown_trans' G1.out g2)
       have C2 := Lib.hid (C1.out.kept g2)
       clear o2 g2)
    | (refine wpList_storeC (off := 0) (p := [.slice none 0 0, .slice A2 nn c2, .int .i64 k]) outT.hi rfl (.tmp 6) (.tmp 15) rfl (.agg #[.slice none 0 0, .slice A2 nn c2, .int .i64 k]) rfl (out_one _ _ _ rfl rfl) C2.out rfl (Nat.le_refl _) (by first | rfl | go_simp) (by first | rfl | go_simp) ?_
       intro w4 h4 g4
       have C4 := Lib.hid (show CB w4 w.heap.size 57 [.slice none 0 0, .slice A2 nn c2, .int .i64 k] from h4)
       have O4 := Lib.hid (O2.out.grown C2.out (by decide) g4)
       have G4 := Lib.hid (out_store (Nat.le_refl _) G2.out g4)
       clear h4 g4))
  refine bodyPost_ret (results_C1 rfl _ outT C4.out rfl (by first | rfl | go_simp)) rfl ?_
  refine ⟨_, rfl, ?_, G4.out⟩
  have h := O4.out
  rw [app_bytes (app_bytes (app_bytes HC.out rfl) HT1.out) rfl] at h
  exact h
end Go.Proofs.YtlkchajkhplapaaGreatDoor
namespace Go.Proofs.YtlkchajkhplapaaGreatDoor
open Go.RowKit Go.Maps Go.WideMaps

def ranC (who line : ByteArray) (c : Int) : List Value := [.string who, .string line, .int .i64 c]
def zeroRan : List Value := ranC ⟨#[]⟩ ⟨#[]⟩ 0
theorem zeroRan_run (w : World) : (zeroValue 126).run Tryz.prog w = .ok (.agg zeroRan.toArray) w := by kernel_rfl
theorem aggRan : AggT Tryz.prog 126 3 := ⟨fun _ => by kernel_rfl, by kernel_rfl⟩
theorem ran_one (who line : ByteArray) (c : Int) : ∀ u ∈ ranC who line c, u.oneCell' = true := by
  intro u hu
  simp only [ranC, List.mem_cons, List.not_mem_nil, or_false] at hu
  rcases hu with rfl | rfl | rfl <;> rfl
theorem over_ran (cs : List Value) (who line : ByteArray) (c : Int) (h : cs.length = 3) : over cs 0 (ranC who line c) = ranC who line c := by
  rw [over, List.take_zero, List.nil_append, List.drop_eq_nil_of_le (by simp [ranC]; omega), List.append_nil]
set_option maxRecDepth 10000 in
theorem rowRan : RowT Tryz.prog 59 126 3 := ⟨Tryz.underlying59, by
  refine ⟨_, _, rfl, rfl, rfl, ?_, rfl⟩
  decide, by omega⟩
set_option maxHeartbeats 1000000 in
theorem rapart_any (w : World) (who line : ByteArray) (c : Int) (hp : who.size ≤ 1000000) (ho : line.size ≤ 1000000) :
    Calls Tryz.prog 78 #[.agg (ranC who line c).toArray] w fun e w' => e = .returned (.agg (ranC who line c).toArray) ∧ w.grownBy w' none := by
  obtain ⟨w1, hw1⟩ : ∃ w1, w1 = (w.alloc (.cells (ranC who line c).toArray 126)).alloc (.cells #[.string ⟨#[]⟩, .string ⟨#[]⟩, .int .i64 0] 126) := ⟨_, rfl⟩
  have hc1 : CB w1 w.heap.size 126 (ranC who line c) := by rw [hw1]; exact (CB.new w _ _).alloc _
  have hz1 : CB w1 (w.heap.size + 1) 126 zeroRan := by
    have := CB.new (w.alloc (.cells (ranC who line c).toArray 126)) 126 zeroRan
    rw [World.size_alloc] at this
    rw [hw1]; exact this
  have hb1 : Below w.heap.size w w1 := by rw [hw1]; exact ((Below.refl _ w).alloc (Nat.le_refl _) _).alloc (by simp) _
  have k0 := hc1.at_ (i := 0) (v := .string who) rfl
  rw [hw1] at k0
  have HC1 := Lib.hid hc1
  have HZ1 := Lib.hid hz1
  have HB1 := Lib.hid hb1
  have HW1 := Lib.hid hw1
  clear hc1 hz1 hb1 hw1
  go_enter Tryz.func78, Tryz.ntmps78
  go_wp2_with (first
    | refine wpList_allocC zeroRan_run rfl rfl ?_
    | refine wpList_loadC (off := 0) (p := ranC who line c) aggRan rfl (.tmp 1) rfl HC5.out rfl (Nat.le_refl _) rfl ?_
    | (refine wpList_storeC (off := 0) (p := ranC who line c) aggRan.hi rfl (.tmp 2) (.tmp 11) rfl (.agg (ranC who line c).toArray) rfl (ran_one _ _ _) HZ5.out rfl (Nat.le_refl _) rfl rfl ?_; intro w8 h8 g8; rw [over_ran _ _ _ _ rfl] at h8)
    | (go_at_call 59; have hx := HC3; clear hx; refine (clone_any line _ ho).mono ?_; rintro e w4 ⟨rfl, hb4⟩; have HC4 := Lib.hid (HC3.out.below hb4 HC3.out.lt); have HZ4 := Lib.hid (HZ3.out.below hb4 HZ3.out.lt); have HB4 := Lib.hid (HB3.out.trans (hb4.mono HB3.out.size)); have s2' := HC4.out.at_ (i := 1) (v := .string line) rfl; have f2' := HC4.out.free 1; have HC5 := Lib.hid (show CB (w4.setCell ⟨w.heap.size, 1, none⟩ (.string line)) w.heap.size 126 (ranC who line c) from HC4.out.set_ 1 (.string line)); have HZ5 := Lib.hid (HZ4.out.far (p := ⟨w.heap.size, 1, none⟩) (by simp) (.string line)); have HB5 := Lib.hid (HB4.out.setCell (p := ⟨w.heap.size, 1, none⟩) (Nat.le_refl _) (.string line)); clear hb4)
    | (go_at_call 59; rw [← HW1.out]; refine (clone_any who _ hp).mono ?_; rintro e w2 ⟨rfl, hb2⟩; have HC2 := Lib.hid (HC1.out.below hb2 HC1.out.lt); have HZ2 := Lib.hid (HZ1.out.below hb2 HZ1.out.lt); have HB2 := Lib.hid (HB1.out.trans (hb2.mono HB1.out.size)); have s0 := HC2.out.at_ (i := 0) (v := .string who) rfl; have f0 := HC2.out.free 0; have HC3 := Lib.hid (show CB (w2.setCell ⟨w.heap.size, 0, none⟩ (.string who)) w.heap.size 126 (ranC who line c) from HC2.out.set_ 0 (.string who)); have HZ3 := Lib.hid (HZ2.out.far (p := ⟨w.heap.size, 0, none⟩) (by simp) (.string who)); have HB3 := Lib.hid (HB2.out.setCell (p := ⟨w.heap.size, 0, none⟩) (Nat.le_refl _) (.string who)); have k2 := HC3.out.at_ (i := 1) (v := .string line) rfl; clear hb2))
  refine bodyPost_ret (results_C1 rfl _ aggRan h8 rfl rfl) rfl ?_
  refine ⟨rfl, none_rowB (none_of_below HB5.out (Nat.le_refl _)) g8 (fun g hg => by injection hg with hg; omega)⟩
/-- A new Shell of a Tree. -/
theorem snew_any {w0 w : World} {tb mb : Nat} {M : List (List UInt8 × Nd)} (h : TG w0 w tb mb M) :
    Calls Tryz.prog 34 #[.pointer (some ⟨tb, 0, none⟩)] w fun e w' => ∃ sb, e = .returned (.pointer (some ⟨sb, 0, none⟩)) ∧ SG w0 w' sb tb mb M 0 := by
  have HT := Lib.hid h
  clear h
  go_enter Tryz.func34, Tryz.ntmps34
  go_wp2
  go_ret
  refine ⟨_, rfl, ?_⟩
  have hg := grown_alloc w (.cells #[.pointer (some ⟨tb, 0, none⟩), .slice none 0 0] 124) none
  exact ⟨HT.out.below (below_of_none hg), HT.out.gr.size, _, [], CB.new w _ [.pointer (some ⟨tb, 0, none⟩), .slice none 0 0], RowX.nil_ _ _ _ _, rfl, fun c hc => by cases hc⟩
end Go.Proofs.YtlkchajkhplapaaGreatDoor
