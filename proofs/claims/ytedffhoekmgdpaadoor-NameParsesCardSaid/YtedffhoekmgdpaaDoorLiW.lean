/- The walk of NameLimits. -/
import Derived.Test.YtedffhoekmgdpaaDoorApW
import Derived.Test.YtedffhoekmgdpaaDoorOpN
namespace Go.Proofs.YtedffhoekmgdpaaDoor
open Go.RowKit

/-- A row of strings of the call's own. -/
def OwnS (w : World) (base : Nat) (e : TypeId) (v : Value) (ls : List ByteArray) : Prop := w.ownsRow base e 1 v ls.length (ls.map Value.string)
/-- What the program says of its type of slices of strings. -/
structure StrT (P : Program) (t e : TypeId) : Prop where
  ht : P.underlying t = some (.slice e)
  hi : (P.info? e).map (fun i => (i.zero, i.size, i.bytes)) = some (some (.string ⟨#[]⟩), 1, 16)
theorem strT : StrT Tryd.prog 22 9 := ⟨Tryd.underlying22, by kernel_rfl⟩
theorem strs_one (ls : List ByteArray) : ∀ u ∈ ls.map Value.string, u.oneCell' = true := by
  intro u hu
  obtain ⟨_, _, rfl⟩ := List.mem_map.1 hu
  rfl
theorem OwnS.nil_ (w : World) (base : Nat) (e : TypeId) : OwnS w base e (.slice none 0 0) [] := World.ownsRow_nil w base e 1
theorem OwnS.shape {w : World} {base : Nat} {e : TypeId} {v : Value} {ls : List ByteArray} (h : OwnS w base e v ls) : ∃ A cap, v = .slice A ls.length cap ∧ RS w w.heap.size A ls cap ∧ (∀ g, v.ownBlock = some g → base ≤ g ∧ g < w.heap.size) := by
  rcases h.2 with ⟨rfl, hl⟩ | ⟨g, cap, cur, rfl, hb, hg, hc, hm, _⟩
  · have : ls = [] := List.eq_nil_of_length_eq_zero hl
    subst this
    exact ⟨none, 0, rfl, RS.nil_ _ _, fun g hg => by simp [Value.ownBlock] at hg⟩
  · have hlt := (Array.getElem?_eq_some_iff.1 hg).1
    refine ⟨_, cap, rfl, ⟨hc, hm, .inr ⟨_, rfl, fun k s hs => ⟨hlt, ?_⟩⟩⟩, fun g' hg' => by simp [Value.ownBlock] at hg'; omega⟩
    exact h.cells (g := g) rfl k (.string s) (by rw [List.getElem?_map, hs]; rfl)
theorem OwnS.row {w w' : World} {base : Nat} {e : TypeId} {v : Value} {ls : List ByteArray} {g : Nat} (h : OwnS w base e v ls) (hg : w.grownBy w' (some g)) (hne : ∀ x, v.ownBlock = some x → x ≠ g) : OwnS w' base e v ls :=
  World.ownsRow.kept h hg (.inr (fun e => hne g e rfl))
theorem OwnS.kept_ {w w' : World} {base : Nat} {e : TypeId} {v : Value} {ls : List ByteArray} (h : OwnS w base e v ls) (hg : w.grownBy w' none) : OwnS w' base e v ls :=
  World.ownsRow.kept h hg (by cases hv : v.ownBlock <;> simp)
theorem OwnS.shape_lt {w : World} {base : Nat} {e : TypeId} {v : Value} {ls : List ByteArray} (h : OwnS w base e v ls) : ∀ g, v.ownBlock = some g → base ≤ g ∧ g < w.heap.size := by
  obtain ⟨_, _, _, _, h⟩ := h.shape
  exact h
theorem slSize : (Tryd.prog.info? 22).map (·.size) = some 1 := by kernel_rfl
theorem grownR {a b c : World} {r : Option Nat} (h : a.grownBy b none) (k : b.grownBy c r) (hr : ∀ g, r = some g → a.heap.size ≤ g) : a.grownBy c none := by
  rcases r with _ | g
  · exact grown_trans' h k
  · exact none_new h k (hr g rfl)
section
variable {P : Program} {w : World} {ops : Array Oper} {rest : List Oper} {o : Oper} {a : Act} {Q : Exit → Act → World → Prop}
theorem run_appS {t e : TypeId} (hT : StrT P t e) (ty : TypeId) {base : Nat} {v : Value} {ls : List ByteArray} (hown : OwnS w base e v ls) {ad : Addr} {p : ByteArray} {c : Nat} (hp : w.cell? ad = some (.string p)) (hlen : ls.length ≤ 1000000) (hbase : base ≤ w.heap.size) :
    ∃ v' w', (Builtin.append_ #[t, t] ty #[v, .slice (some ad) 1 c]).run P w = .ok v' w' ∧ OwnS w' base e v' (ls ++ [p]) ∧ w.grownBy w' v.ownBlock ∧ (v'.ownBlock = v.ownBlock ∨ v'.ownBlock = some w.heap.size) := by
  obtain ⟨i0, hi, hz0, hz1, hz2⟩ := info_parts hT.hi
  obtain ⟨v', w', hrun, ho, hg, _, hat⟩ := run_append_own_at (P := P) (w := w) base t ty e i0 (.string ⟨#[]⟩) 1 16 hT.ht hi hz0 hz1 hz2 rfl (by decide) v ls.length (ls.map Value.string) hown
    ad 1 c [.string p] rfl (fun j u hu => by
      match j with
      | 0 => simp at hu; subst hu; simpa [Addr.add] using hp
      | j + 1 => simp at hu) (fun u hu => by rw [List.mem_singleton.1 hu]; rfl) (by unfold maxLen; omega) (by omega) hbase
  refine ⟨v', w', hrun, ?_, hg, hat⟩
  unfold OwnS
  rw [List.length_append, List.map_append]
  exact ho
theorem wpList_appS {t e : TypeId} (hT : StrT P t e) (hgd : o.guard = none) (s x : Operand)
    (ho : o.op = .call { callee := .builtin .append, args := #[s, x], argTypes := #[t, t] })
    {base : Nat} {v : Value} {ls : List ByteArray} (hown : OwnS w base e v ls) {ad : Addr} {p : ByteArray} {c : Nat} (hp : w.cell? ad = some (.string p))
    (hs : a.eval s = v) (hx : a.eval x = .slice (some ad) 1 c) (hlen : ls.length ≤ 1000000) (hbase : base ≤ w.heap.size)
    (h : ∀ v' w', OwnS w' base e v' (ls ++ [p]) → w.grownBy w' v.ownBlock → (v'.ownBlock = v.ownBlock ∨ v'.ownBlock = some w.heap.size) → wpList P ops Q rest (a.put o.dst v') w') : wpList P ops Q (o :: rest) a w := by
  refine wpList_plain hgd fun K hK => ?_
  obtain ⟨v', w', hrun, h2, h3, h5⟩ := run_appS (c := c) hT o.type hown hp hlen hbase
  unfold Oper.wp execOp
  simp only [ho, resolve, invoke, builtin, Sem.run_bind, Sem.run_pure, Result.andThen_ok, List.map_toArray, List.map_cons, List.map_nil, hs, hx, hrun]
  exact hK _ _ (h v' w' h2 h3 h5)
end

theorem and_low (a : Int) (m : Nat) (hm : m < 128) : ∃ q : Nat, q ≤ m ∧ bits .and .i64 a (m : Int) = (q : Int) := by
  have hq : (BitVec.ofInt 64 a &&& BitVec.ofNat 64 m).toNat ≤ m := by
    rw [BitVec.toNat_and]
    refine Nat.le_trans Nat.and_le_right ?_
    rw [BitVec.toNat_ofNat]
    exact Nat.mod_le _ _
  refine ⟨(BitVec.ofInt 64 a &&& BitVec.ofNat 64 m).toNat, hq, ?_⟩
  show IntKind.i64.wrap ((BitVec.ofInt 64 a &&& BitVec.ofInt 64 (m : Int)).toNat : Int) = _
  rw [BitVec.ofInt_natCast, IntKind.wrap_i64]
  omega
def sP : ByteArray := ⟨#[112]⟩
def sR : ByteArray := ⟨#[82]⟩
theorem okP : partOk sP.data.toList = true := by decide
theorem okR : partOk sR.data.toList = true := by decide
theorem partOk_x (k : Nat) : partOk (List.replicate k 120) = decide (1 ≤ k ∧ k ≤ 16) := by
  rw [partOk, List.length_replicate]
  have : (List.replicate k (120 : UInt8)).all rightB = true := by
    rw [List.all_eq_true]
    intro b hb
    rw [List.eq_of_mem_replicate hb]
    decide
  rw [this, Bool.and_true]
  rw [Bool.eq_iff_iff]
  simp
theorem nameOk_x (j : Nat) : nameOk (dl (List.replicate j sP)) sR.data.toList = decide (1 ≤ j ∧ j ≤ 3) := by
  rw [nameOk, dl_length, List.length_replicate, okR, Bool.and_true]
  have : (dl (List.replicate j sP)).all partOk = true := by
    rw [List.all_eq_true]
    intro b hb
    obtain ⟨s, hs, rfl⟩ := List.mem_map.1 hb
    rw [List.eq_of_mem_replicate hs]
    exact okP
  rw [this, Bool.and_true, Bool.eq_iff_iff]
  simp
theorem nameOk_y (k : Nat) (X : ByteArray) (h : X.data.toList = List.replicate k 120) : nameOk (dl [sP, X]) sR.data.toList = decide (1 ≤ k ∧ k ≤ 16) := by
  rw [nameOk, okR, dl]
  simp only [List.map_cons, List.map_nil, List.all_cons, List.all_nil, okP, h, partOk_x]
  simp
theorem nameOk_z (k : Nat) (X : ByteArray) (h : X.data.toList = List.replicate k 120) : nameOk (dl [sP]) X.data.toList = decide (1 ≤ k ∧ k ≤ 16) := by
  rw [nameOk, dl]
  simp only [List.map_cons, List.map_nil, List.all_cons, List.all_nil, okP, h, partOk_x]
  simp

theorem CB.row_ {w w' : World} {g : Nat} {t : TypeId} {cs : List Value} {v : Value} (h : CB w g t cs) (hg : w.grownBy w' v.ownBlock) (hr : ∀ x, v.ownBlock = some x → x ≠ g) : CB w' g t cs := (hg.block g h.lt (fun e => hr g e.symm rfl)).trans h
set_option maxRecDepth 10000 in
set_option maxHeartbeats 1000000 in
theorem walk_NameLimits (w : World) (hM : ML w) (n : Int) (_ : (Lit.int .i64 n).wf = true) (parts : Int) (_ : (Lit.int .i64 parts).wf = true) :
    Calls Tryd.prog 7 #[.int .i64 n, .int .i64 parts] w fun e w' => e = .returned (.bool true) ∧ Below w.heap.size w w' := by
  obtain ⟨k, hk, hke⟩ : ∃ q : Nat, q ≤ 31 ∧ bits .and .i64 n 31 = (q : Int) := and_low n 31 (by omega)
  obtain ⟨m, hm, hme⟩ : ∃ q : Nat, q ≤ 7 ∧ bits .and .i64 parts 7 = (q : Int) := and_low parts 7 (by omega)
  have HM := Lib.hid hM
  clear hM
  go_enter Tryd.func7, Tryd.ntmps7
  go_wp2_with (go_at_call 8; refine (speaks_any _ HM.out).mono ?_; rintro e w1 ⟨rfl, hb1⟩; have HB1 := Lib.hid hb1; clear hb1)
  go_loop [6, 5] (fun i s => ∃ (j : Nat) (X : ByteArray), i = .int .i64 j ∧ j ≤ k ∧ s = .string X ∧ X.data.toList = List.replicate j 120) (fun i _ => k - (intOf i).toNat)
  case atStart => exact ⟨0, ⟨#[]⟩, rfl, by omega, rfl, rfl⟩
  case round =>
    obtain ⟨j, X, rfl, hj, rfl, hX⟩ := hrel
    have hXs : X.size = j := by rw [show X.size = X.data.toList.length from rfl, hX, List.length_replicate]
    by_cases hlt : j < k
    · have hji : (j : Int) < (k : Int) := by omega
      have hcat : ¬ 9223372036854775807 < X.size + 1 := by omega
      have HX := Lib.hid (show (X ++ ⟨#[120]⟩).data.toList = List.replicate (j + 1) 120 by rw [List.replicate_succ', ← hX]; simp)
      clear hX hXs
      go_wp2
      go_round
      case rel => exact ⟨j + 1, _, by go_num, by omega, rfl, HX.out⟩
      case measure => simp [intOf]; omega
    · have hji : ¬ (j : Int) < (k : Int) := by omega
      obtain rfl : j = k := by omega
      have HX := Lib.hid hX
      have HXS := Lib.hid hXs
      clear hX hXs
      go_wp2
      go_loopw [8] (fun i wr => ∃ (jj : Nat) (v : Value), i = .int .i64 jj ∧ jj ≤ m ∧ CB wr w1.heap.size 24 [v, .string sR] ∧ OwnS wr w.heap.size 9 v (List.replicate jj sP) ∧ (∀ x, v.ownBlock = some x → x ≠ w1.heap.size) ∧ w.grownBy wr none) (fun i _ => m - (intOf i).toNat)
      case atStart => exact ⟨0, .slice none 0 0, rfl, by omega, CB.new w1 _ _, OwnS.nil_ _ _ _, fun x hx => by simp [Value.ownBlock] at hx, grown_trans' (none_of_below HB1.out (Nat.le_refl _)) (grown_alloc _ _ none)⟩
      case round =>
        obtain ⟨jj, v, rfl, hjj, hc, ho, hne, hg⟩ := hrel
        have HC := Lib.hid hc
        have HO := Lib.hid ho
        have HNE := Lib.hid hne
        have HG := Lib.hid hg
        by_cases hlt2 : jj < m
        · have hjji : (jj : Int) < (m : Int) := by omega
          have d1 := hc.at_ (i := 0) (v := v) rfl
          have HLJ := Lib.hid (show (List.replicate jj sP).length ≤ 1000000 by rw [List.length_replicate]; omega)
          have HGS := Lib.hid (Nat.le_trans hg.size (by rw [World.size_alloc]; omega : wr.heap.size ≤ (wr.alloc (.cells #[.string ⟨#[112]⟩] 9)).heap.size))
          clear hc ho hne hg
          go_wp2_with (first
            | (at_builtin; refine wpList_appS (p := sP) strT rfl (.tmp 30) (.tmp 31) rfl (HO.out.kept_ (grown_alloc wr (.cells #[.string ⟨#[112]⟩] 9) none)) (cell_heap (heap_alloc_new wr _) 0) rfl rfl HLJ.out HGS.out ?_; intro v2 w2 o2 g2 hat; have HC2 := Lib.hid ((HC.out.alloc (.cells #[.string ⟨#[112]⟩] 9)).row_ g2 HNE.out); have HG2 := Lib.hid (grownR (grown_trans' HG.out (grown_alloc wr (.cells #[.string ⟨#[112]⟩] 9) none)) g2 (fun x hx => (HO.out.shape_lt x hx).1)); have HNE2 := Lib.hid (show ∀ x, v2.ownBlock = some x → x ≠ w1.heap.size from fun x hx => by
                rcases hat with h | h
                · exact HNE.out x (h ▸ hx)
                · rw [h, World.size_alloc] at hx; injection hx with hx; have := HC.out.lt; omega); have o3 := o2; obtain ⟨A2, c2, hv2, -, -⟩ := o3.shape; have HO2 := Lib.hid o2; have HV2 := Lib.hid hv2; clear o2 o3 g2 hat hv2)
            | (refine wpList_storeC (off := 0) (p := [v2]) slSize rfl (.tmp 33) (.tmp 32) rfl v2 (by rw [HV2.out]; rfl) (fun u hu => by rw [List.mem_singleton.1 hu, HV2.out]; rfl) HC2.out rfl (by simp) (by first | rfl | go_simp) rfl ?_; intro w4 h4 g4; have H4 := Lib.hid (show CB w4 w1.heap.size 24 [v2, .string sR] from h4); have O4 := Lib.hid (HO2.out.row g4 HNE2.out); have G4 := Lib.hid (none_new HG2.out g4 HB1.out.size); clear h4 g4))
          go_roundw
          case rel => exact ⟨jj + 1, v2, by go_num, by omega, H4.out, by rw [List.replicate_succ']; exact O4.out, HNE2.out, G4.out⟩
          case measure => simp [intOf]; omega
        · have hjji : ¬ (jj : Int) < (m : Int) := by omega
          obtain rfl : jj = m := by omega
          obtain ⟨A, c, rfl, hrs, -⟩ := ho.shape
          rw [List.length_replicate] at hc
          have HCC := Lib.hid hc
          have d1 : ∀ o1 o2 o3 o4, ((((wr.alloc o1).alloc o2).alloc o3).alloc o4).cell? ⟨w1.heap.size, 0, none⟩ = some (.slice A jj c) := fun _ _ _ _ => cell_alloc (cell_alloc (cell_alloc (cell_alloc (HCC.out.at_ (i := 0) rfl) _) _) _) _
          have d2 : ∀ o1 o2 o3 o4, ((((wr.alloc o1).alloc o2).alloc o3).alloc o4).cell? ⟨w1.heap.size, 1, none⟩ = some (.string sR) := fun _ _ _ _ => cell_alloc (cell_alloc (cell_alloc (cell_alloc (HCC.out.at_ (i := 1) rfl) _) _) _) _
          obtain ⟨W0, hW0⟩ : ∃ W, W = ((((wr.alloc (.cells #[.string ⟨#[112]⟩, .string X] 9)).alloc (.cells #[.slice (some ⟨wr.heap.size, 0, none⟩) 2 2, .string ⟨#[82]⟩] 24)).alloc (.cells #[.string ⟨#[112]⟩] 9)).alloc (.cells #[.slice (some ⟨wr.heap.size + 1 + 1, 0, none⟩) 1 1, .string X] 24)) := ⟨_, rfl⟩
          have HW0 := Lib.hid hW0
          have hs1 : (wr.alloc (.cells #[.string ⟨#[112]⟩, .string X] 9)).heap.size = wr.heap.size + 1 := World.size_alloc _ _
          have hs2 : ((wr.alloc (.cells #[.string ⟨#[112]⟩, .string X] 9)).alloc (.cells #[.slice (some ⟨wr.heap.size, 0, none⟩) 2 2, .string ⟨#[82]⟩] 24)).heap.size = wr.heap.size + 1 + 1 := by rw [World.size_alloc, hs1]
          have hs3 : (((wr.alloc (.cells #[.string ⟨#[112]⟩, .string X] 9)).alloc (.cells #[.slice (some ⟨wr.heap.size, 0, none⟩) 2 2, .string ⟨#[82]⟩] 24)).alloc (.cells #[.string ⟨#[112]⟩] 9)).heap.size = wr.heap.size + 1 + 1 + 1 := by rw [World.size_alloc, hs2]
          have b1 : CB W0 wr.heap.size 9 [.string sP, .string X] := by rw [hW0]; exact (((CB.new wr 9 [.string sP, .string X]).alloc _).alloc _).alloc _
          have b2 : CB W0 (wr.heap.size + 1) 24 [.slice (some ⟨wr.heap.size, 0, none⟩) 2 2, .string sR] := by
            have h := CB.new (wr.alloc (.cells #[.string ⟨#[112]⟩, .string X] 9)) 24 [.slice (some ⟨wr.heap.size, 0, none⟩) 2 2, .string sR]
            rw [hs1] at h
            rw [hW0]
            exact (h.alloc _).alloc _
          have b3 : CB W0 (wr.heap.size + 1 + 1) 9 [.string sP] := by
            have h := CB.new ((wr.alloc (.cells #[.string ⟨#[112]⟩, .string X] 9)).alloc (.cells #[.slice (some ⟨wr.heap.size, 0, none⟩) 2 2, .string ⟨#[82]⟩] 24)) 9 [.string sP]
            rw [hs2] at h
            rw [hW0]
            exact h.alloc _
          have b4 : CB W0 (wr.heap.size + 1 + 1 + 1) 24 [.slice (some ⟨wr.heap.size + 1 + 1, 0, none⟩) 1 1, .string X] := by
            have h := CB.new (((wr.alloc (.cells #[.string ⟨#[112]⟩, .string X] 9)).alloc (.cells #[.slice (some ⟨wr.heap.size, 0, none⟩) 2 2, .string ⟨#[82]⟩] 24)).alloc (.cells #[.string ⟨#[112]⟩] 9)) 24 [.slice (some ⟨wr.heap.size + 1 + 1, 0, none⟩) 1 1, .string X]
            rw [hs3] at h
            rw [hW0]
            exact h
          have hww : Below w.heap.size w W0 := by
            rw [hW0]
            refine below_of_none (grown_trans' hg (grown_trans' (grown_trans' (grown_trans' (grown_alloc _ _ none) (grown_alloc _ _ none)) (grown_alloc _ _ none)) (grown_alloc _ _ none)))
          have HWW := Lib.hid hww
          have RX := Lib.hid (show RS W0 W0.heap.size A (List.replicate jj sP) c from by
            rw [hW0]
            exact (hrs.below (below_of_none (grown_trans' (grown_trans' (grown_trans' (grown_alloc _ _ none) (grown_alloc _ _ none)) (grown_alloc _ _ none)) (grown_alloc _ _ none)))).more (by rw [World.size_alloc, hs3]; omega))
          have RY := Lib.hid (show RS W0 W0.heap.size (some ⟨wr.heap.size, 0, none⟩) [sP, X] 2 from RS.of_heap b1 rfl (by omega))
          have RZ := Lib.hid (show RS W0 W0.heap.size (some ⟨wr.heap.size + 1 + 1, 0, none⟩) [sP] 1 from RS.of_heap b3 rfl (by omega))
          have HB0 := Lib.hid (Below.refl W0.heap.size W0)
          have q91 : ∀ wx, Below W0.heap.size W0 wx → wx.cell? ⟨wr.heap.size + 1, 0, none⟩ = some (.slice (some ⟨wr.heap.size, 0, none⟩) 2 2) := fun wx hx => (hx.cell b2.lt).trans (b2.at_ (i := 0) rfl)
          have q92 : ∀ wx, Below W0.heap.size W0 wx → wx.cell? ⟨wr.heap.size + 1, 1, none⟩ = some (.string sR) := fun wx hx => (hx.cell b2.lt).trans (b2.at_ (i := 1) rfl)
          have qa1 : ∀ wx, Below W0.heap.size W0 wx → wx.cell? ⟨wr.heap.size + 1 + 1 + 1, 0, none⟩ = some (.slice (some ⟨wr.heap.size + 1 + 1, 0, none⟩) 1 1) := fun wx hx => (hx.cell b4.lt).trans (b4.at_ (i := 0) rfl)
          have qa2 : ∀ wx, Below W0.heap.size W0 wx → wx.cell? ⟨wr.heap.size + 1 + 1 + 1, 1, none⟩ = some (.string X) := fun wx hx => (hx.cell b4.lt).trans (b4.at_ (i := 1) rfl)
          have HPX := Lib.hid (show ∀ s ∈ List.replicate jj sP, s.size ≤ 1000000 from fun s hs => by rw [List.eq_of_mem_replicate hs]; decide)
          have HXB := Lib.hid (show X.size ≤ 1000000 by have := HXS.out; omega)
          have HPY := Lib.hid (show ∀ s ∈ [sP, X], s.size ≤ 1000000 from fun s hs => by
            simp only [List.mem_cons, List.not_mem_nil, or_false] at hs
            rcases hs with rfl | rfl
            · decide
            · exact HXB.out)
          have HPZ := Lib.hid (show ∀ s ∈ [sP], s.size ≤ 1000000 from fun s hs => by rw [List.mem_singleton.1 hs]; decide)
          obtain ⟨f, hf⟩ : ∃ f, f = decide (1 ≤ j ∧ j ≤ 16) := ⟨_, rfl⟩
          obtain ⟨g, hgg⟩ : ∃ g, g = decide (1 ≤ jj ∧ jj ≤ 3) := ⟨_, rfl⟩
          have NX := Lib.hid (show nameOk (dl (List.replicate jj sP)) sR.data.toList = g by rw [nameOk_x, hgg])
          have NY := Lib.hid (show nameOk (dl [sP, X]) sR.data.toList = f by rw [nameOk_y j X HX.out, hf])
          have NZ := Lib.hid (show nameOk (dl [sP]) X.data.toList = f by rw [nameOk_z j X HX.out, hf])
          have cf : (¬ (1 : Int) ≤ (j : Int) ∧ f = false) ∨ ((1 : Int) ≤ (j : Int) ∧ ¬ (j : Int) ≤ 16 ∧ f = false) ∨ ((1 : Int) ≤ (j : Int) ∧ (j : Int) ≤ 16 ∧ f = true) := by
            rw [hf]
            by_cases h1 : 1 ≤ j
            · by_cases h2 : j ≤ 16
              · exact .inr (.inr ⟨by omega, by omega, decide_eq_true ⟨h1, h2⟩⟩)
              · exact .inr (.inl ⟨by omega, by omega, decide_eq_false (fun h => h2 h.2)⟩)
            · exact .inl ⟨by omega, decide_eq_false (fun h => h1 h.1)⟩
          have cg : (¬ (1 : Int) ≤ (jj : Int) ∧ g = false) ∨ ((1 : Int) ≤ (jj : Int) ∧ ¬ (jj : Int) ≤ 3 ∧ g = false) ∨ ((1 : Int) ≤ (jj : Int) ∧ (jj : Int) ≤ 3 ∧ g = true) := by
            rw [hgg]
            by_cases h1 : 1 ≤ jj
            · by_cases h2 : jj ≤ 3
              · exact .inr (.inr ⟨by omega, by omega, decide_eq_true ⟨h1, h2⟩⟩)
              · exact .inr (.inl ⟨by omega, by omega, decide_eq_false (fun h => h2 h.2)⟩)
            · exact .inl ⟨by omega, decide_eq_false (fun h => h1 h.1)⟩
          clear hc ho hne hg hrs hW0 hs1 hs2 hs3 b1 b2 b3 b4 hww hf hgg
          rcases cf with ⟨f1, rfl⟩ | ⟨f1, f2, rfl⟩ | ⟨f1, f2, rfl⟩ <;> rcases cg with ⟨g1, rfl⟩ | ⟨g1, g2, rfl⟩ | ⟨g1, g2, rfl⟩
          all_goals (
            go_wp2_with (first
              | (go_at_call 12; have hx := HB2; clear hx; refine (check_any _ [sP] 1 X _ ((RZ.out.below HB2.out).more HB2.out.size) HPZ.out HXB.out 1 rfl).mono ?_; rintro e w3 ⟨rfl, hb3⟩; rw [NZ.out]; have HB3 := Lib.hid (HB2.out.trans (hb3.mono HB2.out.size)); simp only [errOf, if_true, Bool.false_eq_true, if_false]; clear hb3)
              | (go_at_call 12; have hx := HB1x; clear hx; refine (check_any _ [sP, X] 2 sR _ ((RY.out.below HB1x.out).more HB1x.out.size) HPY.out (by decide) 2 rfl).mono ?_; rintro e w2 ⟨rfl, hb2⟩; rw [NY.out]; have HB2 := Lib.hid (HB1x.out.trans (hb2.mono HB1x.out.size)); have e11_w2 := q91 _ HB2.out; have e12_w2 := q92 _ HB2.out; have e21_w2 := qa1 _ HB2.out; have e22_w2 := qa2 _ HB2.out; simp only [errOf, if_true, Bool.false_eq_true, if_false]; clear hb2)
              | (go_at_call 12; rw [← HW0.out]; refine (check_any A (List.replicate jj sP) c sR _ RX.out HPX.out (by decide) jj (List.length_replicate ..)).mono ?_; rintro e w1x ⟨rfl, hb1x⟩; rw [NX.out]; have HB1x := Lib.hid hb1x; have e11_w1x := q91 _ HB1x.out; have e12_w1x := q92 _ HB1x.out; have e21_w1x := qa1 _ HB1x.out; have e22_w1x := qa2 _ HB1x.out; simp only [errOf, if_true, Bool.false_eq_true, if_false]; clear hb1x))
            go_ret
            exact ⟨rfl, HWW.out.trans (HB3.out.mono HWW.out.size)⟩)
end Go.Proofs.YtedffhoekmgdpaaDoor
