/- New; add. -/
import Derived.Test.YtlkchajkhplapaaGreatDoorTrs
namespace Go.Proofs.YtlkchajkhplapaaGreatDoor
open Go.RowKit Go.Maps Go.WideMaps

section
variable {P : Program} {k : TypeId} {α β : Type} {kv : α → Value} {vv : β → Value} {M : List (α × β)} {w : World} {ops : Array Oper} {rest : List Oper} {o : Oper} {a : Act} {Q : Exit → Act → World → Prop} {b : Nat} {t e : TypeId} [DecidableEq α]
/-- A map's entry, laid in a literal. -/
theorem wpList_insM (K : Keyed P k) (hi : ∀ a b : α, kv a = kv b → a = b) (hg : o.guard = none) (m x v : Operand) (hop : o.op = Op.insert t m x v) (ht : P.underlying t = some (.map k e))
    (h : MT P k kv vv w b M) (hn : M.length < maxLen) (hm : a.eval m = .map (some b)) (ky : α) (vl : β) (hok : OkK P k kv ky) (hx : a.eval x = kv ky) (hv : a.eval v = vv vl)
    (hK : ∀ w', MT P k kv vv w' b (withoutM M ky ++ [(ky, vl)]) → w.mapTurned w' b → wpList P ops Q rest (a.put o.dst undef) w') : wpList P ops Q (o :: rest) a w := by
  refine wpList_plain hg fun K' hK' => ?_
  obtain ⟨w', hrun, r1, r2⟩ := h.2.store K ht hn (key := kv ky) (val := vv vl) hok (d := .held (vv vl)) (ps := []) rfl
  unfold Oper.wp
  simp [execOp, hop, hm, hx, hv, hrun, Result.andThen]
  exact hK' _ _ (hK w' (MT.mk (h.1.put hok vl) r1 (put_datM K hi h.1 hok vl)) r2)
end

set_option maxRecDepth 10000 in
set_option maxHeartbeats 1000000 in
theorem tnew_any (w : World) : Calls Tryz.prog 15 #[] w fun e w' => ∃ tb mb nd, e = .returned (.pointer (some ⟨tb, 0, none⟩)) ∧ TS w' tb mb [([47], nd)] ∧ nd.dir = true ∧ nd.owner = rootB ∧ nd.mode = 61 ∧ w.grownBy w' none ∧ w.heap.size ≤ tb ∧ w.heap.size ≤ mb ∧ w.heap.size ≤ nd.blk := by
  have hm0 := MT.made (P := Tryz.prog) (k := 9) (kv := kS) (vv := vN) w
  have hm1 := hm0.alloc (.cells (nodeC ⟨#[47]⟩ true rootB 61 (.slice none 0 0)).toArray 63)
  have H := Lib.hid hm1
  clear hm0 hm1
  have hmm := @run_makeMap Tryz.prog
  go_enter Tryz.func15, Tryz.ntmps15
  go_wp2_with (refine wpList_insM keyedS kS_inj rfl (.tmp 1) (.const (.string ⟨#[47]⟩)) (.tmp 3) rfl Tryz.underlying94 H.out (by simp [maxLen]) rfl [47] ⟨w.heap.size + 1, true, rootB, 61, .slice none 0 0⟩ (okS _ (by simp)) rfl rfl ?_; intro w3 h3 g3; have H3 := Lib.hid h3; have G3 := Lib.hid g3.grown; clear h3 g3)
  go_ret
  have hc0 : CB ((w.alloc (.map #[] 0)).alloc (.cells (nodeC ⟨#[47]⟩ true rootB 61 (.slice none 0 0)).toArray 63)) (w.heap.size + 1) 63 (nodeC ⟨#[47]⟩ true rootB 61 (.slice none 0 0)) := by
    have := CB.new (w.alloc (.map #[] 0)) 63 (nodeC ⟨#[47]⟩ true rootB 61 (.slice none 0 0))
    rw [World.size_alloc] at this
    exact this
  have hc3 := hc0.grown G3.out (by omega)
  have hs3 : w.heap.size + 2 ≤ w3.heap.size := by have := G3.out.size; simp at this; omega
  have hg : w.grownBy w3 none := none_new ((grown_alloc w (.map #[] 0) none).trans (grown_alloc _ _ none)) G3.out (Nat.le_refl _)
  refine ⟨w3.heap.size, w.heap.size, ⟨w.heap.size + 1, true, rootB, 61, .slice none 0 0⟩, rfl, ⟨⟨heap_alloc_new w3 _, H3.out.alloc _, fun q n hq => ?_⟩, fun q n q' n' hq hq' _ => ?_, fun q n hq => ?_, fun q n q' n' k hq hq' hk _ => ?_⟩, rfl, rfl, rfl, hg.trans (grown_alloc _ _ none), by omega, Nat.le_refl _, by show w.heap.size ≤ w.heap.size + 1; omega⟩
  · rw [List.mem_singleton] at hq
    cases hq
    exact ⟨hc3.alloc _, by show 61 < 64; omega⟩
  · rw [List.mem_singleton] at hq hq'
    cases hq
    cases hq'
    rfl
  · rw [List.mem_singleton] at hq
    cases hq
    exact ⟨[], OwnB.nil_ _ _ _, by simp⟩
  · rw [List.mem_singleton] at hq
    cases hq
    simp [Value.ownBlock] at hk

/-- What came of a node that was put. -/
def Put (w w' : World) (tb mb : Nat) (M : List (List UInt8 × Nd)) (p : List UInt8) (dir : Bool) (owner : ByteArray) (mode : Nat) (l : List UInt8) : Prop :=
  ∃ nd : Nd, nd.dir = dir ∧ nd.owner = owner ∧ nd.mode = mode ∧ TS w' tb mb (M ++ [(p, nd)]) ∧ OwnB w' w.heap.size 5 nd.data l ∧ w.grownBy w' (some mb) ∧ w.heap.size ≤ nd.blk
theorem addC_of {M : List (List UInt8 × Nd)} {who : ByteArray} {p : List UInt8} {n : Nd} (h : M.lookup (parOf p) = some n) : addC M who p = if mayOk who 2 n.owner n.mode = false then 114 else if 64 ≤ M.length then 2 else 0 := by
  unfold addC
  rw [h]

set_option maxRecDepth 10000 in
set_option maxHeartbeats 2000000 in
theorem add_no (w : World) (tb mb : Nat) (M : List (List UInt8 × Nd)) (hT : TS w tb mb M) (path owner : ByteArray) (dir : Bool) (mode : Nat) (v : Value) (p a b : List UInt8) (hp : path.data.toList = p) (hab : p = a ++ 47 :: b) (hb : (47 : UInt8) ∉ b) (hs : path.size ≤ 1000000)
    (n : Nd) (hn : M.lookup (parOf p) = some n) (hM : M.length ≤ 1000000) (hc : addC M owner p ≠ 0) :
    Calls Tryz.prog 61 #[.pointer (some ⟨tb, 0, none⟩), .agg (nodeC path dir owner mode v).toArray] w fun e w' => e = .returned (.int .i64 (addC M owner p)) ∧ Below w.heap.size w w' := by
  rw [addC_of hn] at hc ⊢
  have hT1 : TS (w.alloc (.cells (nodeC path dir owner mode v).toArray 63)) tb mb M := hT.below ((Below.refl _ _).alloc (Nat.le_refl _) _)
  have MC := mayChange_any _ tb mb M hT1.tr owner path a b (by rw [hp, hab]) hb hs n (by rw [← hab, ← parOf_eq hab hb]; exact hn)
  have C1 := CB.new w 63 (nodeC path dir owner mode v)
  have k0 := C1.at_ (i := 0) (v := .string path) rfl
  have k2 := C1.at_ (i := 2) (v := .string owner) rfl
  have HT := Lib.hid hT1
  cases hm : mayOk owner 2 n.owner n.mode with
  | false =>
    rw [if_pos rfl]
    rw [hm] at MC
    have CC := Lib.hid MC
    clear MC hT hT1 hp hab hb hs hn hc hm C1
    go_enter Tryz.func61, Tryz.ntmps61
    go_wp2_with (go_at_call 51; refine CC.out.mono ?_; rintro e w2 ⟨rfl, q2, hq2⟩; have HB2 := Lib.hid (show Below w.heap.size w w2 by rw [hq2]; exact ((Below.refl _ _).alloc (Nat.le_refl _) _).trans ⟨rfl, rfl, rfl, Nat.le_refl _, fun _ _ => rfl⟩); clear hq2)
    go_ret
    exact ⟨rfl, HB2.out⟩
  | true =>
    rw [hm, if_neg (by decide)] at hc
    rw [if_neg (by decide)]
    have h64 : 64 ≤ M.length := by
      by_cases h : 64 ≤ M.length
      · exact h
      · rw [if_neg h] at hc; exact absurd rfl hc
    rw [if_pos h64]
    have h64i : (64 : Int) ≤ (M.length : Int) := by omega
    rw [hm] at MC
    have CC := Lib.hid MC
    clear MC hT hT1 hp hab hb hs hn hc hm C1 h64
    go_enter Tryz.func61, Tryz.ntmps61
    go_wp2_with (first
      | (go_at_call 51; refine CC.out.mono ?_; rintro e w2 ⟨rfl, q2, hq2⟩; have HB2 := Lib.hid (show Below w.heap.size w w2 by rw [hq2]; exact ((Below.refl _ _).alloc (Nat.le_refl _) _).trans ⟨rfl, rfl, rfl, Nat.le_refl _, fun _ _ => rfl⟩); have HM2 := Lib.hid (show MT Tryz.prog 9 kS vN w2 mb M by rw [hq2]; exact HT.out.tr.map); have kt : w2.cell? ⟨tb, 0, none⟩ = some (.map (some mb)) := (by rw [hq2]; exact (cell_box HT.out.tr.top).1); clear hq2)
      | (refine wpList_lenM rfl _ rfl Tryz.underlying94 HM2.out rfl ?_))
    go_ret
    exact ⟨rfl, HB2.out⟩

set_option maxRecDepth 10000 in
set_option maxHeartbeats 4000000 in
theorem add_ok (w : World) (tb mb : Nat) (M : List (List UInt8 × Nd)) (hT : TS w tb mb M) (path owner : ByteArray) (dir : Bool) (mode : Nat) (A : Option Addr) (l : List UInt8) (cap k : Nat) (hk : l.length = k) (hr : RB w w.heap.size A l cap) (hkl : k ≤ 1000000) (p a b : List UInt8) (hp : path.data.toList = p) (hab : p = a ++ 47 :: b) (hb : (47 : UInt8) ∉ b) (hs : path.size ≤ 1000000) (ho : owner.size ≤ 1000000)
    (n : Nd) (hn : M.lookup (parOf p) = some n) (hout : M.lookup p = none) (hmo : mode < 64) (hc : addC M owner p = 0) :
    Calls Tryz.prog 61 #[.pointer (some ⟨tb, 0, none⟩), .agg (nodeC path dir owner mode (.slice A k cap)).toArray] w fun e w' => e = .returned (.int .i64 0) ∧ Put w w' tb mb M p dir owner mode l := by
  rw [addC_of hn] at hc
  have hm : mayOk owner 2 n.owner n.mode = true := by
    cases hm : mayOk owner 2 n.owner n.mode with
    | true => rfl
    | false => rw [hm, if_pos rfl] at hc; cases hc
  rw [hm, if_neg (by decide)] at hc
  have h64 : ¬ 64 ≤ M.length := fun h => by rw [if_pos h] at hc; cases hc
  have h64i : ¬ (64 : Int) ≤ (M.length : Int) := by omega
  have hT1 : TS (w.alloc (.cells (nodeC path dir owner mode (.slice A k cap)).toArray 63)) tb mb M := hT.below ((Below.refl _ _).alloc (Nat.le_refl _) _)
  have MC := mayChange_any _ tb mb M hT1.tr owner path a b (by rw [hp, hab]) hb hs n (by rw [← hab, ← parOf_eq hab hb]; exact hn)
  rw [hm] at MC
  have C1 := CB.new w 63 (nodeC path dir owner mode (.slice A k cap))
  have k0 := C1.at_ (i := 0) (v := .string path) rfl
  have k2 := C1.at_ (i := 2) (v := .string owner) rfl
  have HT := Lib.hid hT
  have CC := Lib.hid MC
  have HC1 := Lib.hid C1
  have HR := Lib.hid hr
  have HK := Lib.hid hk
  have HKL := Lib.hid hkl
  have HS := Lib.hid hs
  have HO := Lib.hid ho
  have HP := Lib.hid hp
  have H64 := Lib.hid h64
  have HOUT := Lib.hid hout
  clear MC hT hT1 hp hab hb hs hn hc hm C1 h64 hr hk ho hout
  go_enter Tryz.func61, Tryz.ntmps61
  go_wp2_with (first
    | (go_at_call 51; refine CC.out.mono ?_; rintro e w2 ⟨rfl, q2, hq2⟩; have HB2 := Lib.hid (show Below w.heap.size w w2 by rw [hq2]; exact ((Below.refl _ _).alloc (Nat.le_refl _) _).trans ⟨rfl, rfl, rfl, Nat.le_refl _, fun _ _ => rfl⟩); have HT2 := Lib.hid (HT.out.below HB2.out); have kt : w2.cell? ⟨tb, 0, none⟩ = some (.map (some mb)) := (cell_box HT2.out.tr.top).1; have HC2 := Lib.hid (show CB w2 w.heap.size 63 (nodeC path dir owner mode (.slice A k cap)) by rw [hq2]; exact HC1.out); clear hq2)
    | (refine wpList_lenM rfl _ rfl Tryz.underlying94 HT2.out.tr.map rfl ?_)
    | (refine wpList_loadC (off := 0) (p := nodeC path dir owner mode (.slice A k cap)) aggNd rfl (.tmp 3) rfl HC2.out rfl (Nat.le_refl _) rfl ?_)
    | (go_at_call 74; refine (apart_any _ path owner dir mode A l cap k HK.out ((HR.out.below HB2.out).more HB2.out.size) HKL.out HS.out HO.out).mono ?_; rintro e w3 ⟨A', c', rfl, o3, b3⟩; have O3 := Lib.hid o3; have HB3 := Lib.hid (HB2.out.trans (b3.mono HB2.out.size)); have HC3 := Lib.hid (HC2.out.below b3 HC2.out.lt); have Z3 := Lib.hid (show w2.heap.size ≤ w3.heap.size from b3.size); clear o3 b3)
    | (refine wpList_storeC (off := 0) (p := nodeC path dir owner mode (.slice A' k c')) aggNd.hi rfl (.tmp 3) (.tmp 21) rfl (.agg (nodeC path dir owner mode (.slice A' k c')).toArray) rfl (nd_one _ _ _ _ _ _ _) HC3.out rfl (Nat.le_refl _) rfl (by first | rfl | go_simp) ?_; intro w4 h4 g4; rw [over_nd _ _ _ _ _ _ rfl] at h4; have HC4 := Lib.hid h4; have HB4 := Lib.hid (HB3.out.grown g4 HB3.out.size (fun q e => by injection e with e; omega)); have O4 := Lib.hid (World.ownsRow.kept (row := some w.heap.size) O3.out g4 (.inr fun e => by have := (O3.out.lt _ e).1; have := HC2.out.lt; omega)); clear h4 g4))
  have T4 := Lib.hid (HT.out.below HB4.out)
  have kt4 : w4.cell? ⟨tb, 0, none⟩ = some (.map (some mb)) := (cell_box T4.out.tr.top).1
  have k04 : w4.cell? ⟨w.heap.size, 0, none⟩ = some (.string path) := HC4.out.at_ rfl
  clear kt k0 k2
  go_wp2
  go_still_tail 6, (by kernel_rfl)
  repeat still_step
  change wpList _ _ _ _ _ w4.drew
  have HPB := Lib.hid (bytes_of HP.out)
  have T4d := Lib.hid (T4.out.below (w' := w4.drew) ((Below.refl _ _).drew))
  refine wpList_putM keyedS kS_inj rfl (.tmp 25) (.tmp 27) (.tmp 3) rfl Tryz.underlying94 T4d.out.tr.map (by have := H64.out; unfold maxLen; omega) (by first | rfl | go_simp) p ⟨w.heap.size, dir, owner, mode, .slice A' k c'⟩ (okS _ (by rw [← HP.out]; exact HS.out)) (by first | (rw [kS, ← HPB.out]; rfl) | (rw [kS, ← HPB.out]; go_simp)) (by first | rfl | go_simp) ?_
  intro w5 h5 g5
  rw [without_out HOUT.out] at h5
  have P5 := Lib.hid (T4d.out.put HOUT.out h5 g5.grown (show CB w4.drew w.heap.size 63 _ by rw [← HPB.out]; exact HC4.out.drew) hmo (fun q m hq => by have := (HT.out.tr.lts).2.2 q m hq; show m.blk ≠ w.heap.size; omega) (OwnB.base_ (OwnB.drew (show OwnB w4 _ 5 (.slice A' k c') l from O4.out)) (Nat.zero_le _)) (by rw [HK.out]; exact HKL.out) (fun q m z hq hz e => by
    obtain ⟨l', hl', -⟩ := HT.out.row q m hq
    have h1 := (hl'.lt z hz).2
    have h2 := (World.ownsRow.lt O4.out z e).1
    have h3 := HC2.out.lt
    omega))
  have G5 := Lib.hid (show w.grownBy w5 (some mb) from (grownC_of_below (HB4.out.drew) (Nat.le_refl _)).trans g5.grown)
  have O5 := Lib.hid (World.ownsRow.kept (OwnB.drew (show OwnB w4 _ 5 (.slice A' k c') l from O4.out)) g5.grown (.inr (by obtain ⟨es, cl, hmb⟩ := T4d.out.tr.map.block; exact OwnB.ne_map (OwnB.drew (show OwnB w4 _ 5 (.slice A' k c') l from O4.out)) hmb)))
  clear h5 g5
  go_wp2
  go_ret
  exact ⟨rfl, ⟨w.heap.size, dir, owner, mode, .slice A' k c'⟩, rfl, rfl, rfl, P5.out, OwnB.base_ O5.out HB2.out.size, G5.out, Nat.le_refl _⟩
end Go.Proofs.YtlkchajkhplapaaGreatDoor
namespace Go.Proofs.YtlkchajkhplapaaGreatDoor
open Go.RowKit Go.Maps Go.WideMaps

theorem Put.back {w w1 w' : World} {tb mb : Nat} {M : List (List UInt8 × Nd)} {p : List UInt8} {dir : Bool} {owner : ByteArray} {mode : Nat} {l : List UInt8} (hb : Below w.heap.size w w1) (h : Put w1 w' tb mb M p dir owner mode l) : Put w w' tb mb M p dir owner mode l := by
  obtain ⟨nd, h1, h2, h3, h4, h5, h6, h7⟩ := h
  exact ⟨nd, h1, h2, h3, h4, OwnB.base_ h5 hb.size, (grownC_of_below hb (Nat.le_refl _)).trans h6, Nat.le_trans hb.size h7⟩

set_option maxRecDepth 10000 in
set_option maxHeartbeats 4000000 in
theorem mkdir_no (w : World) (tb mb : Nat) (M : List (List UInt8 × Nd)) (hT : TS w tb mb M) (ht : ∃ n, M.lookup [47] = some n) (hM : M.length ≤ 1000000) (who s : ByteArray) (p : List UInt8) (hp : s.data.toList = p) (hs : p.length ≤ 100000) (m : Int) (hc : mkdirC M who p m ≠ 0) :
    Calls Tryz.prog 23 #[.pointer (some ⟨tb, 0, none⟩), .string who, .string s, .int .i64 m] w fun e w' => e = .returned (.int .i64 (mkdirC M who p m)) ∧ Below w.heap.size w w' := by
  have CA := come_any w tb mb M hT.tr who s p hp hs
  obtain ⟨c, hcc⟩ : ∃ c, c = (comeR M who p).2 := ⟨_, rfl⟩
  by_cases h0 : c ≠ 0
  · have hR : mkdirC M who p m = c := by unfold mkdirC; rw [← hcc, if_pos h0]
    rw [comeR_no (by rw [← hcc]; exact h0), ← hcc] at CA
    have hcq : (c == 0) = false := beq_eq_false_iff_ne.2 h0
    have CC := Lib.hid CA
    rw [hR]
    clear CA hcc hT hp hs hR hc ht
    go_enter Tryz.func23, Tryz.ntmps23
    go_wp2_with (go_at_call 50; refine CC.out.mono ?_; rintro e w1 ⟨rfl, hb1⟩)
    go_ret
    exact ⟨rfl, hb1⟩
  have h0' : c = 0 := Classical.byContradiction h0
  have hce : (comeR M who p).2 = 0 := by rw [← hcc]; exact h0'
  rw [comeR_ok hce, hce] at CA
  by_cases h1 : 0 ≤ m ∧ m ≤ 63
  · cases hl : M.lookup p with
    | some n =>
      have hR : mkdirC M who p m = 111 := by unfold mkdirC; rw [hce, if_neg (by decide), if_neg (by simpa using h1), hl]
      rw [hl, ptrOf, vN] at CA
      have CC := Lib.hid CA
      have D1 := Lib.hid (decide_eq_true h1)
      rw [hR]
      clear CA hcc hT hp hs hR hl h0 h0' hce h1 hc ht
      go_enter Tryz.func23, Tryz.ntmps23
      go_wp2_with (first
        | (go_at_call 50; refine CC.out.mono ?_; rintro e w1 ⟨rfl, hb1⟩)
        | (go_at_call 57; refine (isMode_any _ m).mono ?_; rintro e w2 ⟨rfl, rfl⟩; rw [D1.out]))
      go_ret
      exact ⟨rfl, hb1⟩
    | none =>
      have hR : mkdirC M who p m = addC M who p := by unfold mkdirC; rw [hce, if_neg (by decide), if_neg (by simpa using h1), hl]
      rw [hR] at hc ⊢
      rw [hl, ptrOf] at CA
      obtain ⟨a, b, n, hab, hb, hpo, hn, -⟩ := parent_in hce ht hl
      obtain ⟨x, rfl⟩ : ∃ x : Nat, m = (x : Int) := ⟨m.toNat, by omega⟩
      have CC := Lib.hid CA
      have D1 := Lib.hid (decide_eq_true h1)
      have AD := Lib.hid (fun (W : World) (hT' : TS W tb mb M) => add_no W tb mb M hT' s who true x (.slice none 0 0) p a b hp hab hb (show s.data.toList.length ≤ 1000000 by rw [hp]; omega) n hn hM hc)
      have HT := Lib.hid hT
      obtain ⟨cc, hcc2⟩ : ∃ cc, addC M who p = cc := ⟨_, rfl⟩
      rw [hcc2] at AD ⊢
      clear CA hcc hT hp hs hR hl h0 h0' hce h1 hc ht hab hb hpo hn hcc2
      go_enter Tryz.func23, Tryz.ntmps23
      go_wp2_with (first
        | (go_at_call 50; refine CC.out.mono ?_; rintro e w1 ⟨rfl, hb1⟩; have HB1 := Lib.hid hb1; clear hb1)
        | (go_at_call 57; refine (isMode_any _ (x : Int)).mono ?_; rintro e w2 ⟨rfl, rfl⟩; rw [D1.out])
        | (go_at_call 61; refine (AD.out _ (HT.out.below HB1.out)).mono ?_; rintro e w3 ⟨rfl, hb3⟩; have HB3 := Lib.hid (HB1.out.trans (hb3.mono HB1.out.size)); clear hb3))
      go_ret
      exact ⟨rfl, HB3.out⟩
  · have hR : mkdirC M who p m = 1 := by unfold mkdirC; rw [hce, if_neg (by decide), if_pos (by simpa using h1)]
    have CC := Lib.hid CA
    have D1 := Lib.hid (decide_eq_false h1)
    rw [hR]
    clear CA hcc hT hp hs hR h0 h0' hce h1 hc ht
    go_enter Tryz.func23, Tryz.ntmps23
    go_wp2_with (first
      | (go_at_call 50; refine CC.out.mono ?_; rintro e w1 ⟨rfl, hb1⟩)
      | (go_at_call 57; refine (isMode_any _ m).mono ?_; rintro e w2 ⟨rfl, rfl⟩; rw [D1.out]))
    go_ret
    exact ⟨rfl, hb1⟩
set_option maxRecDepth 10000 in
set_option maxHeartbeats 4000000 in
theorem mkdir_ok (w : World) (tb mb : Nat) (M : List (List UInt8 × Nd)) (hT : TS w tb mb M) (ht : ∃ n, M.lookup [47] = some n) (who s : ByteArray) (hw : who.size ≤ 1000000) (p : List UInt8) (hp : s.data.toList = p) (hs : p.length ≤ 100000) (m : Int) (hc : mkdirC M who p m = 0) :
    Calls Tryz.prog 23 #[.pointer (some ⟨tb, 0, none⟩), .string who, .string s, .int .i64 m] w fun e w' => e = .returned (.int .i64 0) ∧ Put w w' tb mb M p true who m.toNat [] := by
  have CA := come_any w tb mb M hT.tr who s p hp hs
  have hce : (comeR M who p).2 = 0 := by
    apply Classical.byContradiction
    intro h
    unfold mkdirC at hc
    rw [if_pos h] at hc
    exact h hc
  have h1 : 0 ≤ m ∧ m ≤ 63 := by
    apply Classical.byContradiction
    intro h
    unfold mkdirC at hc
    rw [hce, if_neg (by decide), if_pos h] at hc
    cases hc
  have hl : M.lookup p = none := by
    cases hl : M.lookup p with
    | none => rfl
    | some n =>
      unfold mkdirC at hc
      rw [hce, if_neg (by decide), if_neg (by simpa using h1), hl] at hc
      cases hc
  have hR : addC M who p = 0 := by
    unfold mkdirC at hc
    rw [hce, if_neg (by decide), if_neg (by simpa using h1), hl] at hc
    exact hc
  rw [comeR_ok hce, hce, hl, ptrOf] at CA
  obtain ⟨a, b, n, hab, hb, hpo, hn, -⟩ := parent_in hce ht hl
  obtain ⟨x, rfl⟩ : ∃ x : Nat, m = (x : Int) := ⟨m.toNat, by omega⟩
  have CC := Lib.hid CA
  have D1 := Lib.hid (decide_eq_true h1)
  have AD := Lib.hid (fun (W : World) (hT' : TS W tb mb M) => add_ok W tb mb M hT' s who true x none [] 0 0 rfl (RB.nil_ _ _) (by omega) p a b hp hab hb (show s.data.toList.length ≤ 1000000 by rw [hp]; omega) hw n hn hl (by omega) hR)
  have HT := Lib.hid hT
  clear CA hT hp hs hR hl hce h1 hc ht hab hb hpo hn
  go_enter Tryz.func23, Tryz.ntmps23
  go_wp2_with (first
    | (go_at_call 50; refine CC.out.mono ?_; rintro e w1 ⟨rfl, hb1⟩; have HB1 := Lib.hid hb1; clear hb1)
    | (go_at_call 57; refine (isMode_any _ (x : Int)).mono ?_; rintro e w2 ⟨rfl, rfl⟩; rw [D1.out])
    | (go_at_call 61; refine (AD.out _ (HT.out.below HB1.out)).mono ?_; rintro e w3 ⟨rfl, h3⟩; have H3 := Lib.hid h3; clear h3))
  go_ret
  exact ⟨rfl, H3.out.back HB1.out⟩
end Go.Proofs.YtlkchajkhplapaaGreatDoor
