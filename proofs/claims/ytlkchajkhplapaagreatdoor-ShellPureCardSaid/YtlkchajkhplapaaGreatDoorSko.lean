/- A new Tree is sound; the example of the document: speaks. -/
import Derived.Test.YtlkchajkhplapaaGreatDoorSki
import Derived.Test.YtlkchajkhplapaaGreatDoorTsg
namespace Go.Proofs.YtlkchajkhplapaaGreatDoor
open Go.RowKit Go.Maps Go.WideMaps

theorem SndM.newS (b : Nat) (A : Option Addr) (c : Nat) : SndM [([47], ⟨b, true, rootB, 61, .slice A 0 c⟩)] := by
  refine ⟨⟨_, rfl, rfl⟩, fun p n hp => ?_, fun p n hp hne => ?_, by simp⟩
  · rw [List.mem_singleton] at hp; cases hp; exact ⟨rfl, by simp, show rootB.size ≤ 1000000 by decide, fun _ => ⟨A, c, rfl⟩⟩
  · rw [List.mem_singleton] at hp; cases hp; exact absurd rfl hne
set_option maxRecDepth 10000 in
set_option maxHeartbeats 2000000 in
theorem tnewS (w : World) : Calls Tryz.prog 15 #[] w fun e w' => ∃ tb mb nd, e = .returned (.pointer (some ⟨tb, 0, none⟩)) ∧ TS w' tb mb [([47], nd)] ∧ nd.dir = true ∧ nd.owner = rootB ∧ nd.mode = 61 ∧ nd.data = .slice none 0 0 ∧ w.grownBy w' none ∧ w.heap.size ≤ tb ∧ w.heap.size ≤ mb ∧ w.heap.size ≤ nd.blk := by
  have hm0 := MT.made (P := Tryz.prog) (k := 9) (kv := kS) (vv := vN) w
  have hm1 := hm0.alloc (.cells (nodeC ⟨#[47]⟩ true rootB 61 (.slice none 0 0)).toArray 63)
  have H := Lib.hid hm1
  clear hm0 hm1
  have hmm := @run_makeMap Tryz.prog
  go_enter Tryz.func15, Tryz.ntmps15
  go_wp2_with (refine wpList_insM keyedS kS_inj rfl (.tmp 1) (.const (.string ⟨#[47]⟩)) (.tmp 3) rfl Tryz.underlying94 H.out (by simp [maxLen]) rfl [47] ⟨w.heap.size + 1, true, rootB, 61, .slice none 0 0⟩ (okS _ (by simp)) rfl rfl ?_; intro w3 h3 g3; have H3 := Lib.hid h3; have G3 := Lib.hid g3.grown; clear h3 g3)
  go_ret
  have hc0 : CB ((w.alloc (.map #[] 0)).alloc (.cells (nodeC ⟨#[47]⟩ true rootB 61 (.slice none 0 0)).toArray 63)) (w.heap.size + 1) 63 (nodeC ⟨#[47]⟩ true rootB 61 (.slice none 0 0)) := by
    have := CB.new (w.alloc (.map #[] 0)) 63 (nodeC ⟨#[47]⟩ true rootB 61 (.slice none 0 0))
    rw [World.size_alloc] at this
    exact this
  have hc3 := hc0.grown G3.out (by omega)
  have hs3 : w.heap.size + 2 ≤ w3.heap.size := by have := G3.out.size; simp at this; omega
  have hg : w.grownBy w3 none := none_new ((grown_alloc w (.map #[] 0) none).trans (grown_alloc _ _ none)) G3.out (Nat.le_refl _)
  refine ⟨w3.heap.size, w.heap.size, ⟨w.heap.size + 1, true, rootB, 61, .slice none 0 0⟩, rfl, ⟨⟨heap_alloc_new w3 _, H3.out.alloc _, fun q n hq => ?_⟩, fun q n q' n' hq hq' _ => ?_, fun q n hq => ?_, fun q n q' n' k hq hq' hk _ => ?_⟩, rfl, rfl, rfl, rfl, hg.trans (grown_alloc _ _ none), by omega, Nat.le_refl _, by show w.heap.size ≤ w.heap.size + 1; omega⟩
  · rw [List.mem_singleton] at hq
    cases hq
    exact ⟨hc3.alloc _, by show 61 < 64; omega⟩
  · rw [List.mem_singleton] at hq hq'
    cases hq
    cases hq'
    rfl
  · rw [List.mem_singleton] at hq
    cases hq
    exact ⟨[], OwnB.nil_ _ _ _, by simp⟩
  · rw [List.mem_singleton] at hq
    cases hq
    simp [Value.ownBlock] at hk

/-- The Tree that is new. -/
def M0 (b : Nat) : Tr := [([47], ⟨b, true, rootB, 61, .slice none 0 0⟩)]
theorem new_any (w : World) : Calls Tryz.prog 15 #[] w fun e w' => ∃ tb mb b, e = .returned (.pointer (some ⟨tb, 0, none⟩)) ∧ TG w w' tb mb (M0 b) := by
  refine (tnewS w).mono ?_
  rintro e w' ⟨tb, mb, ⟨b, d, o, m, v⟩, rfl, h1, rfl, rfl, rfl, rfl, h2, h3, h4, h5⟩
  exact ⟨tb, mb, _, rfl, h1, h2, h3, h4, fun q n hq => by
    unfold M0 at *
    rw [List.mem_singleton] at hq
    cases hq
    exact h5⟩
theorem snd0 (b : Nat) : SndM (M0 b) := SndM.newS b none 0
def l1 : List UInt8 := [112, 117, 116, 32, 47, 102, 32, 97, 32, 32, 98]
def l2 : List UInt8 := [99, 97, 116, 32, 47, 102]
def l3 : List UInt8 := [114, 109, 32, 47, 120]
theorem w1_eq : wds (pieces1 32 l1) = cPut :: [[47, 102], [97], [98]] := by decide
theorem w2_eq : wds (pieces1 32 l2) = cCat :: [[47, 102]] := by decide
theorem w3_eq : wds (pieces1 32 l3) = cRm :: [[47, 120]] := by decide
theorem write0 (b k : Nat) (hk : k ≤ 1000) : writeC (M0 b) rootB [47, 102] k 60 = 0 := by
  unfold writeC
  rw [show (comeR (M0 b) rootB [47, 102]).2 = 0 by kernel_rfl, if_neg (by decide), if_neg (by decide), if_neg (by omega)]
  kernel_rfl
theorem look0 (b : Nat) : (M0 b).lookup [47, 102] = none := rfl
/-- The Tree with the file f. -/
def M1 (b bf : Nat) (v : Value) : Tr := M0 b ++ [([47, 102], ⟨bf, false, rootB, 60, v⟩)]
theorem read1 (b bf : Nat) (v : Value) : readR (M1 b bf v) rootB [47, 102] = (some ⟨bf, false, rootB, 60, v⟩, 0) := by kernel_rfl
theorem rm1 (b bf : Nat) (v : Value) : rmC (M1 b bf v) rootB [47, 120] = 110 := by
  unfold rmC
  rw [show removeC (M1 b bf v) rootB [47, 120] = 110 by kernel_rfl, if_neg (fun e => absurd e.1 (by decide))]
theorem put_line {R0 R : Value → List UInt8 → Prop} {b : Nat} {line out err : List UInt8} {code : Nat} {M' : Tr} {xs : List (List UInt8)} (h : LineR R0 R (M0 b) rootB line out err code M') (hl : line.length ≤ 80) (hw : wds (pieces1 32 line) = cPut :: [47, 102] :: xs) (hj : (Lib.join xs [32]).length ≤ 1000) :
    out = [] ∧ code = 0 ∧ ∃ bf v, M' = M1 b bf v ∧ R v (Lib.join xs [32]) := by
  unfold LineR at h
  rw [if_neg (by omega), hw] at h
  have h : CmdR R0 R (M0 b) rootB cPut ([47, 102] :: xs) out err code M' := h
  have ht : treeC (M0 b) rootB cPut ([47, 102] :: xs) = 0 := write0 b _ hj
  unfold CmdR at h
  rw [usage_put, if_neg (by simp), if_neg (by simp), if_neg (by decide), if_neg (by decide), if_neg (by decide), if_neg (by rw [ht]; decide)] at h
  obtain ⟨-, hc, hd⟩ := h
  obtain ⟨bf, v, e, hv⟩ := hd.2.1 rfl (look0 b)
  exact ⟨hd.2.2 (.inl rfl), hc, bf, v, e, hv⟩
theorem cat_line {R0 R : Value → List UInt8 → Prop} {b bf : Nat} {v : Value} {line out err l : List UInt8} {code : Nat} {M' : Tr} (h : LineR R0 R (M1 b bf v) rootB line out err code M') (hl : line.length ≤ 80) (hw : wds (pieces1 32 line) = [cCat, [47, 102]]) (hv : R0 v l) :
    out = l ∧ code = 0 := by
  unfold LineR at h
  rw [if_neg (by omega), hw] at h
  have h : CmdR R0 R (M1 b bf v) rootB cCat [[47, 102]] out err code M' := h
  have ht : treeC (M1 b bf v) rootB cCat [[47, 102]] = 0 := congrArg Prod.snd (read1 b bf v)
  unfold CmdR at h
  rw [usage_cat, if_neg (by decide), if_neg (by simp), if_neg (by decide), if_neg (by decide), if_neg (by decide), if_neg (by rw [ht]; decide)] at h
  obtain ⟨-, hc, hd⟩ := h
  exact ⟨hd.1 rfl _ l (congrArg Prod.fst (read1 b bf v)) hv, hc⟩
theorem quiet_of {line : List UInt8} {code : Nat} {c : List UInt8} {xs : List (List UInt8)} (hw : wds (pieces1 32 line) = c :: xs) (hc : ¬ loudC c) : ¬ loudL line code := by
  rintro ⟨-, c', xs', h1, h2⟩
  rw [hw] at h1
  injection h1 with h1
  subst h1
  exact hc h2
theorem cat_quiet : ¬ loudC cCat := by unfold loudC; decide
theorem itoa110 : Lib.itoa 110 = [49, 49, 48] := by simp [Lib.itoa, Lib.decDigits]
theorem rm_line {R0 R : Value → List UInt8 → Prop} {b bf : Nat} {v : Value} {out err : List UInt8} {code : Nat} {M' : Tr} (h : LineR R0 R (M1 b bf v) rootB l3 out err code M') : err = [114, 109, 58, 32, 49, 49, 48, 10] ∧ code = 1 := by
  unfold LineR at h
  rw [if_neg (by decide), w3_eq] at h
  have h : CmdR R0 R (M1 b bf v) rootB cRm [[47, 120]] out err code M' := h
  have ht : treeC (M1 b bf v) rootB cRm [[47, 120]] = 110 := rm1 b bf v
  unfold CmdR at h
  rw [usage_rm, if_neg (by decide), if_neg (by simp), if_neg (by decide), if_neg (by decide), if_neg (by decide), if_pos (by rw [ht]; decide), ht] at h
  obtain ⟨-, he, hc⟩ := h
  refine ⟨?_, hc⟩
  rw [he, failT, itoa110]
  rfl
theorem conv_ob {w : World} {A : Option Addr} {n c : Nat} {l : List UInt8} (h : OB w (.slice A n c) l) : (convert 29 9 (.slice A n c)).run Tryz.prog w = .ok (.string ⟨l.toArray⟩) w := by
  obtain ⟨h1, h2⟩ := h.rb rfl
  exact conv_rb h1 h2
end Go.Proofs.YtlkchajkhplapaaGreatDoor
namespace Go.Proofs.YtlkchajkhplapaaGreatDoor
open Go.RowKit Go.Maps Go.WideMaps

set_option maxRecDepth 20000 in
set_option maxHeartbeats 8000000 in
theorem shspeaks_any (w : World) (htab : TI w) : Calls Tryz.prog 30 #[] w fun e w' => e = .returned (.bool true) ∧ w.grownBy w' none := by
  have HT := Lib.hid htab
  have TK0 := Lib.hid True.intro
  clear htab
  go_enter Tryz.func30, Tryz.ntmps30
  go_wp2_with (first
    | (go_at_call 15; refine (new_any _).mono ?_; rintro e w1 ⟨tb, mb, b, rfl, t0⟩; have T1 := Lib.hid t0; clear t0)
    | (go_at_call 34; refine (snew_any T1.out).mono ?_; rintro e w2 ⟨sb, rfl, sg2⟩; have S2 := Lib.hid sg2; clear sg2)
    | (have hx := TK0; go_at_call 35
       refine (run_any S2.out (snd0 b) (by omega) HT.out rootB (by decide) _ l1 rfl (by decide)).mono ?_
       rintro e w3 ⟨ov, ev, out, err, code, M', rfl, ob, eb, sg, sn, kp, q, d⟩
       obtain ⟨-, rfl, bf, v, rfl, hv⟩ := put_line d (by decide) w1_eq (by decide)
       obtain ⟨A3, n3, c3, rfl, -⟩ := ob.open_
       obtain ⟨A4, n4, c4, rfl, -⟩ := eb.open_
       have S3 := Lib.hid sg
       have N3 := Lib.hid sn
       have HV := Lib.hid hv
       clear hx TK0 ob eb sg sn kp q d hv
       have TK1 := Lib.hid True.intro)
    | (have hx := TK1; go_at_call 35
       refine (run_any S3.out N3.out (by omega) HT.out rootB (by decide) _ l2 rfl (by decide)).mono ?_
       rintro e w4 ⟨ov, ev, out, err, code, M', rfl, ob, eb, sg, sn, kp, q, d⟩
       obtain ⟨rfl, rfl⟩ := cat_line d (by decide) w2_eq HV.out
       obtain ⟨rfl, -⟩ := q (quiet_of w2_eq cat_quiet)
       obtain ⟨A5, n5, c5, rfl, -⟩ := ob.open_
       obtain ⟨A6, n6, c6, rfl, -⟩ := eb.open_
       have S4 := Lib.hid sg
       have N4 := Lib.hid sn
       have O4 := Lib.hid ob
       clear hx TK1 ob eb sg sn kp q d
       have TK2 := Lib.hid True.intro)
    | (have hx := TK2; go_at_call 35
       refine (run_any S4.out N4.out (by omega) HT.out rootB (by decide) _ l3 rfl (by decide)).mono ?_
       rintro e w5 ⟨ov, ev, out, err, code, M', rfl, ob, eb, sg, sn, kp, q, d⟩
       obtain ⟨rfl, rfl⟩ := rm_line d
       obtain ⟨A7, n7, c7, rfl, -⟩ := ob.open_
       obtain ⟨A8, n8, c8, rfl, -⟩ := eb.open_
       have S5 := Lib.hid sg
       have O5 := Lib.hid eb
       have P5 := Lib.hid (kp.ob O4.out (by decide))
       obtain ⟨wz, hwz⟩ : ∃ x, x = ((w5.alloc (.cells #[.slice A3 n3 c3, .slice A4 n4 c4, .int .i64 0] 57)).alloc (.cells #[.slice A5 n5 c5, .slice A6 n6 c6, .int .i64 0] 57)).alloc (.cells #[.slice A7 n7 c7, .slice A8 n8 c8, .int .i64 1] 57) := ⟨_, rfl⟩
       have gz : w5.grownBy wz none := by rw [hwz]; exact grown_trans' (grown_trans' (grown_alloc _ _ none) (grown_alloc _ _ none)) (grown_alloc _ _ none)
       have kv1 : (convert 29 9 (.slice A5 n5 c5)).run Tryz.prog wz = .ok (.string ⟨#[97, 32, 98]⟩) wz := conv_ob (show OB wz (.slice A5 n5 c5) [97, 32, 98] from (Kp.none (ts := []) gz).ob P5.out (by simp))
       have kv2 : (convert 29 9 (.slice A8 n8 c8)).run Tryz.prog wz = .ok (.string ⟨#[114, 109, 58, 32, 49, 49, 48, 10]⟩) wz := conv_ob (show OB wz (.slice A8 n8 c8) [114, 109, 58, 32, 49, 49, 48, 10] from (Kp.none (ts := []) gz).ob O5.out (by simp))
       have GZ := Lib.hid (S5.out.tg.gr.trans gz)
       rw [hwz] at kv1 kv2 GZ
       clear hx TK2 ob eb sg sn kp q d hwz gz
       have TK3 := Lib.hid True.intro))
  go_ret
  exact ⟨rfl, GZ.out⟩
end Go.Proofs.YtlkchajkhplapaaGreatDoor
namespace Go.Proofs.YtlkchajkhplapaaGreatDoor
open Go.ChangeShapes Go.WideShapes Go.RowKit

/-- A line, and who runs it. -/
structure Ln where
  who : ByteArray
  line : ByteArray
instance : Inhabited Ln := ⟨⟨⟨#[]⟩, ⟨#[]⟩⟩⟩
def lnC (l : Ln) : List Value := [.string l.who, .string l.line]
/-- The slice at A reads as these lines. -/
def RLn (w : World) (A : Option Addr) (ls : List Ln) (cap : Nat) : Prop := SR w w.heap.size A 2 (ls.map lnC) cap
theorem RLn.made {w w' : World} {A : Option Addr} {ls : List Ln} {cap : Nat} (h : RLn w A ls cap) (hb : Below w.heap.size w w') : RLn w' A ls cap := by
  obtain ⟨h1, h2, h3⟩ := SR.below h hb (Nat.le_refl _)
  exact ⟨h1, h2, h3.imp id fun ⟨a, ha, hb', hc⟩ => ⟨a, ha, fun hp => ⟨(hb' hp).1, Nat.lt_of_lt_of_le (hb' hp).2 hb.size⟩, hc⟩⟩
theorem RLn.at_ {w : World} {A : Option Addr} {ls : List Ln} {cap : Nat} (h : RLn w A ls cap) {k : Nat} {l : Ln} (hk : ls[k]? = some l) : ∃ b off, A = some ⟨b, off, none⟩ ∧ b < w.heap.size ∧ ∀ j u, (lnC l)[j]? = some u → w.cell? ⟨b, off + k * 2 + j, none⟩ = some u := by
  obtain ⟨hl, e⟩ := List.getElem?_eq_some_iff.1 hk
  obtain ⟨b, off, rfl, hb, hc⟩ := SR.elem h (k := k) (by rw [List.length_map]; exact hl)
  refine ⟨b, off, rfl, hb, fun j u hu => ?_⟩
  rw [Nat.mul_comm k 2]
  exact hc j u (by rw [List.getElem_map, e]; exact hu)
section
variable {H : Type} {enc : TypeId × Value → H} {w : World} {base : Nat} {spare : Nat → Bool} {held : Bool}
set_option maxRecDepth 100000 in
theorem ln_of_trod {fuel : Nat} {cs : List Value} {x : DataW H × List MemPlace} (hlen : cs.length = 2)
    (h : DataW.trod enc Tryz.prog w base spare held fuel 55 cs = some x) : ∃ l : Ln, cs = lnC l ∧ True := by
  obtain ⟨xs, n, _, _, _, hxl, hf⟩ := DataW.trod_struct Tryz.underlying55 h
  have hCs : Tryz.prog.cellsOf 9 = 1 := by kernel_rfl
  match cs, hlen with
  | [c0, c1], _ =>
    match xs, hxl with
    | [y0, y1], _ =>
      have h0 := hf 0 _ rfl
      have h1 := hf 1 _ rfl
      change DataW.trod enc Tryz.prog w base spare held n 9 (List.take (Tryz.prog.cellsOf 9) (List.drop 0 [c0, c1])) = some y0 at h0
      change DataW.trod enc Tryz.prog w base spare held n 9 (List.take (Tryz.prog.cellsOf 9) (List.drop 1 [c0, c1])) = some y1 at h1
      rw [hCs] at h0 h1
      simp only [List.drop_zero, List.drop_succ_cons, List.take_succ_cons, List.take_zero] at h0 h1
      obtain ⟨t0, e0, _, _⟩ := DataW.trod_string Tryz.underlying9 h0
      obtain ⟨t1, e1, _, _⟩ := DataW.trod_string Tryz.underlying9 h1
      simp only [List.cons.injEq, and_true] at e0 e1
      subst e0 e1
      exact ⟨⟨t0, t1⟩, rfl, trivial⟩
theorem lines_of_trod {A : Option Addr} {len cap : Nat} {d : DataW H} {p : List MemPlace} (h : DataW.Trod enc Tryz.prog w base spare held 50 (.slice A len cap) d p) :
    ∃ ls : List Ln, ls.length = len ∧ RLn w A ls cap ∧ ∀ l ∈ ls, True :=
  SR.of_trod Tryz.underlying50 (by kernel_rfl) (by omega) lnC (fun _ => True) (fun _ _ => rfl) (fun _ _ _ hl hx => ln_of_trod hl hx) h
end
/-- Too much. -/
def bigLn (l : Ln) : Bool := decide (100 < l.who.size) || decide (500 < l.line.size)
def greatL (ls : List Ln) : Bool := decide (60 < ls.length) || ls.any bigLn
theorem greatL_no {ls : List Ln} (h : greatL ls = false) : ls.length ≤ 60 ∧ ∀ l ∈ ls, l.who.size ≤ 100 ∧ l.line.size ≤ 500 := by
  unfold greatL at h
  rw [Bool.or_eq_false_iff] at h
  refine ⟨by simpa using h.1, fun l hl => ?_⟩
  have hb : bigLn l = false := by
    cases hb : bigLn l with
    | false => rfl
    | true => exact absurd (List.any_eq_true.2 ⟨l, hl, hb⟩) (by rw [h.2]; decide)
  unfold bigLn at hb
  simp at hb
  exact hb
theorem aggLn : AggT Tryz.prog 55 2 := ⟨fun _ => by kernel_rfl, by kernel_rfl⟩
theorem zeroLn_run (w : World) : (zeroValue 55).run Tryz.prog w = .ok (.agg #[.string ⟨#[]⟩, .string ⟨#[]⟩]) w := by kernel_rfl
theorem ln_one (l : Ln) : ∀ u ∈ lnC l, u.oneCell' = true := by
  intro u hu
  simp only [lnC, List.mem_cons, List.not_mem_nil, or_false] at hu
  rcases hu with rfl | rfl <;> rfl
set_option maxRecDepth 10000 in
set_option maxHeartbeats 4000000 in
theorem greatL_any (w : World) (A : Option Addr) (ls : List Ln) (n cap : Nat) (hn : ls.length = n) (h : RLn w A ls cap) :
    Calls Tryz.prog 33 #[.slice A n cap] w fun e w' => e = .returned (.bool (greatL ls)) ∧ w.grownBy w' none := by
  have H := Lib.hid h
  have HN := Lib.hid hn
  have hnl : n ≤ 9223372036854775807 := by have h1 := h.1; have := h.2.1; rw [List.length_map] at h1; unfold maxLen at this; omega
  by_cases h60 : 60 < n
  · have hi : (60 : Int) < (n : Int) := by omega
    have hg : greatL ls = true := by unfold greatL; rw [hn, decide_eq_true h60]; rfl
    rw [hg]
    clear h hn h60 hg
    go_enter Tryz.func33, Tryz.ntmps33
    go_wp2
    go_ret
    exact ⟨rfl, World.grownBy.refl _ _⟩
  have hi : ¬ (60 : Int) < (n : Int) := by omega
  have hg : greatL ls = ls.any bigLn := by unfold greatL; rw [hn, decide_eq_false h60]; rfl
  rw [hg]
  obtain ⟨gb, hgb⟩ : ∃ gb, ls.any bigLn = gb := ⟨_, rfl⟩
  have HGB := Lib.hid hgb
  rw [hgb]
  clear h hn hg hgb
  go_enter Tryz.func33, Tryz.ntmps33
  go_wp2
  go_loopw [10] (fun i wr => ∃ k : Nat, i = .int .i64 k ∧ k ≤ n ∧ Hid ((ls.take k).any bigLn = false) ∧ w.grownBy wr none) (fun i _ => n - (intOf i).toNat)
  case atStart => exact ⟨0, rfl, Nat.zero_le _, (rfl : (ls.take 0).any bigLn = false), World.grownBy.refl _ _⟩
  case round =>
    obtain ⟨k, rfl, hk, hno, hg⟩ := hrel
    by_cases hlt : k < n
    · obtain ⟨o, ho⟩ : ∃ o, ls[k]? = some o := ⟨_, List.getElem?_eq_getElem (by rw [HN.out]; exact hlt)⟩
      obtain ⟨b, off, rfl, hb, hc⟩ := H.out.at_ ho
      have be := below_of_none hg
      have q0 : wr.cell? ⟨b, off + k * 2, none⟩ = some (.string o.who) := (be.cell (p := ⟨b, off + k * 2, none⟩) hb).trans (hc 0 _ rfl)
      have q1 : wr.cell? ⟨b, off + k * 2 + 1, none⟩ = some (.string o.line) := (be.cell (p := ⟨b, off + k * 2 + 1, none⟩) hb).trans (hc 1 _ rfl)
      have hki : (k : Int) < (n : Int) := by omega
      have HG := Lib.hid hg
      have htk : ls.take (k + 1) = ls.take k ++ [o] := by rw [List.take_add_one, ho]; rfl
      have HNO := Lib.hid hno
      have HTK := Lib.hid htk
      have HY := Lib.hid (fun (h : bigLn o = true) => (List.any_eq_true.2 ⟨o, List.mem_of_getElem? ho, h⟩ : ls.any bigLn = true))
      have HB := Lib.hid (show bigLn o = (decide (100 < o.who.size) || decide (500 < o.line.size)) from rfl)
      clear hc ho hb be hg hno htk
      obtain ⟨ow, ol⟩ := o
      simp only at q0 q1 HB
      by_cases n1 : 100 < ow.size
      · have i1 : (100 : Int) < (ow.size : Int) := by omega
        have HBB := Lib.hid (HY.out (by rw [HB.out, decide_eq_true n1]; simp))
        clear HB HY n1
        go_wp2
        go_ret
        exact ⟨by have e : gb = true := HGB.out.symm.trans HBB.out
                  rw [e]; rfl, grown_trans' HG.out (grown_alloc _ _ _)⟩
      have i1 : ¬ (100 : Int) < (ow.size : Int) := by omega
      by_cases n2 : 500 < ol.size
      · have i2 : (500 : Int) < (ol.size : Int) := by omega
        have HBB := Lib.hid (HY.out (by rw [HB.out, decide_eq_true n2]; simp))
        clear HB HY n1 n2
        go_wp2
        go_ret
        exact ⟨by have e : gb = true := HGB.out.symm.trans HBB.out
                  rw [e]; rfl, grown_trans' HG.out (grown_alloc _ _ _)⟩
      have i2 : ¬ (500 : Int) < (ol.size : Int) := by omega
      have HNN := Lib.hid (show (ls.take (k + 1)).any bigLn = false by rw [HTK.out, List.any_append, HNO.out, List.any_cons, HB.out, decide_eq_false n1, decide_eq_false n2]; rfl)
      clear HB HY n1 n2
      go_wp2
      go_roundw
      case rel => exact ⟨k + 1, by go_num, by omega, HNN, grown_trans' HG.out (grown_alloc _ _ _)⟩
      case measure => simp [intOf]; omega
    · have hkn : k = n := by omega
      subst hkn
      have hN : ls.any bigLn = false := by rw [← hno.out, List.take_of_length_le (Nat.le_of_eq HN.out)]
      have HY := Lib.hid hN
      clear hN hno
      go_wp2
      go_ret
      exact ⟨by have e : gb = false := HGB.out.symm.trans HY.out
                rw [e]; rfl, hg⟩
end Go.Proofs.YtlkchajkhplapaaGreatDoor
namespace Go.Proofs.YtlkchajkhplapaaGreatDoor
open Go.RowKit Go.Maps Go.WideMaps

/-- Who may write nothing there, and owns nothing. -/
structure Out (who : ByteArray) (M : Tr) : Prop where
  top : ∃ n, M.lookup [47] = some n
  root : who ≠ rootB
  all : ∀ p n, (p, n) ∈ M → mayOk who 2 n.owner n.mode = false ∧ who ≠ n.owner
section
variable {M : Tr} {who : ByteArray} {p : List UInt8}
theorem Out.lk (h : Out who M) {q : List UInt8} {n : Nd} (hl : M.lookup q = some n) : mayOk who 2 n.owner n.mode = false := (h.all _ _ (lookup_in hl)).1
theorem Out.add (h : Out who M) (hc : (comeR M who p).2 = 0) (hn : M.lookup p = none) : addC M who p = 114 := by
  obtain ⟨a, b, n, hab, hb, hpo, hl, -⟩ := parent_in hc h.top hn
  rw [addC_of hl, if_pos (h.lk hl)]
theorem Out.remove (h : Out who M) : removeC M who p ≠ 0 := by
  unfold removeC
  by_cases hc : (comeR M who p).2 ≠ 0
  · rw [if_pos hc]; exact hc
  rw [if_neg hc]
  by_cases h1 : p = [47]
  · rw [if_pos h1]; decide
  rw [if_neg h1]
  cases hl : M.lookup p with
  | none => simp
  | some n =>
    cases hd : M.lookup (parOf p) with
    | none => simp
    | some d => simp only; rw [if_pos (h.lk hd)]; decide
theorem Out.mkdir (h : Out who M) (m : Int) : mkdirC M who p m ≠ 0 := by
  unfold mkdirC
  by_cases hc : (comeR M who p).2 ≠ 0
  · rw [if_pos hc]; exact hc
  rw [if_neg hc]
  by_cases h1 : ¬ (0 ≤ m ∧ m ≤ 63)
  · rw [if_pos h1]; decide
  rw [if_neg h1]
  cases hl : M.lookup p with
  | some n => simp
  | none => simp only; rw [h.add (Classical.byContradiction hc) hl]; decide
theorem Out.write (h : Out who M) (k : Nat) (m : Int) : writeC M who p k m ≠ 0 := by
  unfold writeC
  by_cases hc : (comeR M who p).2 ≠ 0
  · rw [if_pos hc]; exact hc
  rw [if_neg hc]
  by_cases h1 : ¬ (0 ≤ m ∧ m ≤ 63)
  · rw [if_pos h1]; decide
  rw [if_neg h1]
  by_cases h2 : 1000 < k
  · rw [if_pos h2]; decide
  rw [if_neg h2]
  cases hl : M.lookup p with
  | none => simp only; rw [h.add (Classical.byContradiction hc) hl]; decide
  | some n =>
    simp only
    by_cases hd : n.dir = true
    · rw [if_pos hd]; decide
    · rw [if_neg hd, if_pos (h.lk hl)]; decide
theorem Out.chmod (h : Out who M) (m : Int) : (chmodR M who p m).1 ≠ 0 := by
  unfold chmodR
  by_cases hc : (comeR M who p).2 ≠ 0
  · rw [if_pos hc]; exact hc
  rw [if_neg hc]
  by_cases h1 : ¬ (0 ≤ m ∧ m ≤ 63)
  · rw [if_pos h1]; show (1 : Int) ≠ 0; decide
  rw [if_neg h1]
  cases hl : M.lookup p with
  | none => show (110 : Int) ≠ 0; decide
  | some n =>
    simp only
    rw [if_pos ⟨h.root, (h.all _ _ (lookup_in hl)).2⟩]
    show (114 : Int) ≠ 0; decide
theorem Out.tree (h : Out who M) {c : List UInt8} (xs : List (List UInt8)) (hc : loudC c) : treeC M who c xs ≠ 0 := by
  rcases hc with rfl | rfl | rfl | rfl
  · exact h.write _ _
  · exact h.mkdir _
  · show rmC M who _ ≠ 0
    unfold rmC
    rw [if_neg (fun e => h.remove e.1)]
    exact h.remove
  · exact h.chmod _
theorem code_loud {R0 R : Value → List UInt8 → Prop} {M' : Tr} {line out err : List UInt8} {code : Nat} (h : LineR R0 R M who line out err code M') (hl : loudL line code) : ∃ c xs, loudC c ∧ wds (pieces1 32 line) = c :: xs ∧ treeC M who c xs = 0 := by
  obtain ⟨h0, c, xs, hw, hc⟩ := hl
  refine ⟨c, xs, hc, hw, ?_⟩
  unfold LineR at h
  by_cases h80 : 80 < line.length
  · rw [if_pos h80] at h
    have := h.2.2
    omega
  rw [if_neg h80, hw] at h
  have h : CmdR R0 R M who c xs out err code M' := h
  unfold CmdR at h
  by_cases h1 : (usageF c xs).1 = false
  · rw [if_pos h1] at h
    have := h.2.2
    omega
  rw [if_neg h1] at h
  by_cases h2 : (usageF c xs).2 = false
  · rw [if_pos h2] at h
    have := h.2.2
    omega
  have e1 : c ≠ cEcho := by rcases hc with rfl | rfl | rfl | rfl <;> decide
  have e2 : c ≠ cWhoami := by rcases hc with rfl | rfl | rfl | rfl <;> decide
  have e3 : c ≠ cExit := by rcases hc with rfl | rfl | rfl | rfl <;> decide
  rw [if_neg h2, if_neg e1, if_neg e2, if_neg e3] at h
  apply Classical.byContradiction
  intro ht
  rw [if_pos ht] at h
  have := h.2.2
  omega
theorem Out.quiet {R0 R : Value → List UInt8 → Prop} {M' : Tr} {line out err : List UInt8} {code : Nat} (h : Out who M) (hl : LineR R0 R M who line out err code M') : ¬ loudL line code := by
  intro hh
  obtain ⟨c, xs, hc, -, ht⟩ := code_loud hl hh
  exact h.tree xs hc ht
end
section
variable {w0 w : World} {sb tb mb N : Nat} {M : Tr}
/-- A line of who may change nothing. -/
theorem run_out (h : SG w0 w sb tb mb M N) (hS : SndM M) (hN : N ≤ 1000000) (htab : TI w0) (who : ByteArray) (hw : who.size ≤ 100) (ho : Out who M) (s : ByteArray) (hl : s.size ≤ 1000) :
    Calls Tryz.prog 35 #[.pointer (some ⟨sb, 0, none⟩), .string who, .string s] w fun e w' => ∃ v, e = .returned v ∧ SG w0 w' sb tb mb M (N + 1) ∧ Kp [126, 124] w w' := by
  refine (run_any h hS hN htab who hw s _ rfl hl).mono ?_
  rintro e w' ⟨ov, ev, out, err, code, M', rfl, ob, eb, sg, sn, kp, q, d⟩
  obtain ⟨rfl, hk⟩ := q (ho.quiet d)
  exact ⟨_, rfl, sg, hk⟩
theorem s_mkdir_ok (h : SG w0 w sb tb mb M N) (hS : SndM M) (who s : ByteArray) (hw : who.size ≤ 100) (p : List UInt8) (hp : s.data.toList = p) (hs : p.length ≤ 300) (m : Nat) (hc : mkdirC M who p m = 0) :
    Calls Tryz.prog 23 #[.pointer (some ⟨tb, 0, none⟩), .string who, .string s, .int .i64 m] w fun e w' => e = .returned (.int .i64 0) ∧ ∃ b A c, SG w0 w' sb tb mb (M ++ [(p, ⟨b, true, who, m, .slice A 0 c⟩)]) N := by
  subst hp
  refine (mkdir_ok w tb mb M h.tg.ts hS.top' who s (by omega) _ rfl (by omega) m hc).mono ?_
  rintro e w' ⟨rfl, hp⟩
  obtain ⟨b, v, t, o⟩ := h.tg.put hp
  obtain ⟨A, c, hv, -, -⟩ := o.shape
  have hch : Chg [63] w w' := by
    obtain ⟨nd, -, -, -, -, -, hg, -⟩ := hp
    exact chg_map h.tg.ts hg
  subst hv
  exact ⟨rfl, b, A, c, h.chg hch t⟩
theorem s_give_ok (h : SG w0 w sb tb mb M N) (who s o : ByteArray) (p : List UInt8) (hp : s.data.toList = p) (hs : p.length ≤ 300) (ho : o.size ≤ 1000) (n : Nd) (hcc : giveR M who p = (0, some n)) (hin : (p, n) ∈ M) :
    Calls Tryz.prog 21 #[.pointer (some ⟨tb, 0, none⟩), .string who, .string s, .string o] w fun e w' => e = .returned (.int .i64 0) ∧ SG w0 w' sb tb mb (turn p (fun x => { x with owner := o }) M) N := by
  refine (give_any w tb mb M h.tg.ts.tr who s o p hp (by omega) (by omega)).mono (fun e w' hh => ?_)
  rw [hcc] at hh
  obtain ⟨he, w1, hb, rfl⟩ := hh
  have h1 := h.tg.below hb
  have hg : w1.grownBy (given w1 o (some n)) (some n.blk) := grownC_set _ _ _ _
  have hg0 := grown_trans' (grown_some (none_of_below hb (Nat.le_refl _)) n.blk) hg
  exact ⟨he, h.chg (chg_node h.tg.ts hin hg0) ⟨h1.ts.owner hin o, none_of h1.gr hg (h.tg.b3 _ _ hin), h.tg.b1, h.tg.b2, b3_turn h.tg.b3 _ (fun _ => rfl)⟩⟩
end
def zoeB : ByteArray := ⟨#[122, 111, 101]⟩
def pOwn : List UInt8 := [47, 111, 119, 110]
def pOwnF : List UInt8 := [47, 111, 119, 110, 47, 102]
/-- The Tree with a directory of zoe's. -/
def MA (b bo : Nat) (o : ByteArray) (v : Value) : Tr := [([47], ⟨b, true, rootB, 61, .slice none 0 0⟩), (pOwn, ⟨bo, true, o, 56, v⟩)]
def MU (b bo bf : Nat) (v vf : Value) : Tr := [([47], ⟨b, true, rootB, 61, .slice none 0 0⟩), (pOwn, ⟨bo, true, zoeB, 56, v⟩), (pOwnF, ⟨bf, false, zoeB, 56, vf⟩)]
theorem mk0 (b : Nat) : mkdirC (M0 b) rootB pOwn (56 : Nat) = 0 := by kernel_rfl
theorem gv0 (b bo : Nat) (v : Value) : giveR (MA b bo rootB v) rootB pOwn = (0, some ⟨bo, true, rootB, 56, v⟩) := by kernel_rfl
theorem turn0 (b bo : Nat) (v : Value) : turn pOwn (fun x => { x with owner := zoeB }) (MA b bo rootB v) = MA b bo zoeB v := by kernel_rfl
theorem wr0 (b bo : Nat) (v : Value) (k : Nat) (hk : k ≤ 1000) : writeC (MA b bo zoeB v) zoeB pOwnF k (56 : Nat) = 0 := by
  unfold writeC
  rw [show (comeR (MA b bo zoeB v) zoeB pOwnF).2 = 0 by kernel_rfl, if_neg (by decide), if_neg (by decide), if_neg (by omega)]
  kernel_rfl
theorem lkU (b bo : Nat) (v : Value) : (MA b bo zoeB v).lookup pOwnF = none := rfl
theorem out_zoe {b bo bf : Nat} {v vf : Value} {who : ByteArray} (h1 : who ≠ rootB) (h2 : who ≠ zoeB) : Out who (MU b bo bf v vf) := by
  refine ⟨⟨_, rfl⟩, h1, fun p n hp => ?_⟩
  unfold MU at hp
  simp only [List.mem_cons, List.not_mem_nil, or_false, Prod.mk.injEq] at hp
  rcases hp with ⟨-, rfl⟩ | ⟨-, rfl⟩ | ⟨-, rfl⟩
  · refine ⟨?_, h1⟩
    show mayOk who 2 rootB 61 = false
    unfold mayOk
    simp [h1]
  · refine ⟨?_, h2⟩
    show mayOk who 2 zoeB 56 = false
    unfold mayOk
    simp [h1, h2]
  · refine ⟨?_, h2⟩
    show mayOk who 2 zoeB 56 = false
    unfold mayOk
    simp [h1, h2]
theorem find_f (b bo bf : Nat) (v vf : Value) : findR (MU b bo bf v vf) rootB pOwnF = (some ⟨bf, false, zoeB, 56, vf⟩, 0) := by kernel_rfl
theorem find_d (b bo bf : Nat) (v vf : Value) : findR (MU b bo bf v vf) rootB pOwn = (some ⟨bo, true, zoeB, 56, v⟩, 0) := by kernel_rfl
theorem list_d (b bo bf : Nat) (v vf : Value) : listR (MU b bo bf v vf) rootB pOwn = 0 := by kernel_rfl
theorem kids_d (b bo bf : Nat) (v vf : Value) : (kidsM (MU b bo bf v vf) pOwn).length = 1 := by kernel_rfl
end Go.Proofs.YtlkchajkhplapaaGreatDoor
