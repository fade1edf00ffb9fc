/- '[]T{x}' of one struct. Plain lemmas, no program. -/
import Derived.Test.YtlkchajkhplapaaGreatDoorRow
import Derived.Test.YtlkchajkhplapaaGreatDoorTsb
import Derived.Test.YtlkchajkhplapaaGreatDoorTrs
import Derived.Test.YtlkchajkhplapaaGreatDoorShi
import Derived.Test.YtlkchajkhplapaaGreatDoorSlr
namespace Go.Proofs.YtlkchajkhplapaaGreatDoor
open Go.RowKit

theorem fold_set : ∀ (l : List Value) (k : Nat) (cs : Array Value), k + l.length = cs.size → (l.zipIdx k).foldl (fun cs x => cs.setIfInBounds (0 + x.2) x.1) cs = (cs.toList.take k ++ l).toArray
  | [], k, cs, h => by
    have hk : k = cs.size := by simpa using h
    subst hk
    rw [List.zipIdx_nil, List.foldl_nil, List.append_nil, List.take_of_length_le (by simp)]
  | c :: l, k, cs, h => by
    have hk : k < cs.size := by rw [List.length_cons] at h; omega
    rw [List.zipIdx_cons, List.foldl_cons, fold_set l (k + 1) _ (by rw [Array.size_setIfInBounds, ← h, List.length_cons]; omega)]
    congr 1
    have : (cs.setIfInBounds (0 + k) c).toList.take (k + 1) = cs.toList.take k ++ [c] := by
      rw [Nat.zero_add, Array.toList_setIfInBounds, List.take_succ_eq_append_getElem (by simpa using hk), List.take_set_of_le (Nat.le_refl _), List.getElem_set_self]
    rw [this, List.append_assoc]
    rfl
theorem run_lit1 {P : Program} {t e : TypeId} {sz : Nat} {p zs : List Value} (ht : P.underlying t = some (.slice e)) (hi : (P.info? e).map (·.size) = some sz) (hz : ∀ w, (zeroValue e).run P w = .ok (.agg zs.toArray) w) (hp : p.length = sz) (hs : sz ≤ 1000) (hpos : 0 < sz) (w : World) :
    (Instr.buildSlice t 1 #[(0, .agg p.toArray)]).run P w = .ok (.slice (some ⟨w.heap.size, 0, none⟩) 1 1) (w.alloc (.cells p.toArray e)) := by
  have hsz : ∀ w, (sizeOf e).run P w = .ok sz w := by
    intro w
    cases hq : P.info? e with
    | none => simp [hq] at hi
    | some j =>
      have hj : j.size = sz := by simpa [hq] using hi
      simp [sizeOf, typeInfo, hq, hj]
  have hne : ¬ sz = 0 := by omega
  have hfill : ∀ B : Array Value, B.size = sz → Instr.fill (fun i => some (i * sz, sz)) B [(0, .agg p.toArray)] = some p.toArray := by
    intro B hB
    unfold Instr.fill
    simp only [Nat.zero_mul, Value.cells]
    rw [if_neg (by simp [hp, hB])]
    unfold Instr.fill
    congr 1
    have h1 : p.toArray.zipIdx.foldl (fun cs x => cs.setIfInBounds (0 + x.2) x.1) B = p.zipIdx.foldl (fun cs x => cs.setIfInBounds (0 + x.2) x.1) B := by
      rw [← Array.foldl_toList]
      simp
    have h2 := fold_set p 0 B (by rw [hB, hp, Nat.zero_add])
    rw [List.take_zero, List.nil_append] at h2
    exact h1.trans h2
  have hle2 : ¬ 16777216 < sz := by omega
  simp [Instr.buildSlice, run_underlying ht, hsz, hle2, hne, hz, Value.cells, newRow, Result.andThen]
  rw [hfill _ (by simp)]
  simp
section
variable {P : Program} {w : World} {ops : Array Oper} {rest : List Oper} {o : Oper} {a : Act} {Q : Exit → Act → World → Prop} {t e : TypeId} {sz : Nat} {p zs : List Value}
theorem wpList_lit1 (ht : P.underlying t = some (.slice e)) (hi : (P.info? e).map (·.size) = some sz) (hz : ∀ w, (zeroValue e).run P w = .ok (.agg zs.toArray) w) (hp : p.length = sz) (hs : sz ≤ 1000) (hpos : 0 < sz) (hgd : o.guard = none) (x : Operand) (ho : o.op = .buildSlice t 1 #[(0, x)]) (hx : a.eval x = .agg p.toArray)
    (hk : wpList P ops Q rest (a.put o.dst (.slice (some ⟨w.heap.size, 0, none⟩) 1 1)) (w.alloc (.cells p.toArray e))) : wpList P ops Q (o :: rest) a w := by
  refine wpList_plain hgd fun K hK => ?_
  unfold Oper.wp execOp
  simp only [ho, List.map_toArray, List.map_cons, List.map_nil, hx, run_lit1 ht hi hz hp hs hpos w, Sem.run_bind, Result.andThen_ok, Sem.run_pure]
  exact hK _ _ hk
theorem wp_lit1 {K : Act → World → Prop} (ht : P.underlying t = some (.slice e)) (hi : (P.info? e).map (·.size) = some sz) (hz : ∀ w, (zeroValue e).run P w = .ok (.agg zs.toArray) w) (hp : p.length = sz) (hs : sz ≤ 1000) (hpos : 0 < sz) (x : Operand) (ho : o.op = .buildSlice t 1 #[(0, x)]) (hx : a.eval x = .agg p.toArray)
    (hk : K (a.put o.dst (.slice (some ⟨w.heap.size, 0, none⟩) 1 1)) (w.alloc (.cells p.toArray e))) : o.wp P a w K Q := by
  unfold Oper.wp execOp
  simp only [ho, List.map_toArray, List.map_cons, List.map_nil, hx, run_lit1 ht hi hz hp hs hpos w, Sem.run_bind, Result.andThen_ok, Sem.run_pure]
  exact hk
end
end Go.Proofs.YtlkchajkhplapaaGreatDoor
namespace Go.Proofs.YtlkchajkhplapaaGreatDoor
open Go.RowKit Go.Maps Go.WideMaps
open Go.WideShapes (sorted_perm)

theorem strKeys_datM {P : Program} {k : TypeId} {β : Type} {vv : β → Value} (hk : P.underlying k = some .string) {M : List (List UInt8 × β)} (h : FineM P k kS M) : (strKeys (datM P k kS vv M)).Perm (keysM M) := by
  unfold datM strKeys
  refine ((sorted_perm _).map _).trans (List.Perm.of_eq ?_)
  unfold keysM
  rw [List.map_map]
  refine List.map_congr_left fun p hp => ?_
  obtain ⟨s, h1, h2, _⟩ := string_of_keyOf hk (h.2 p.1 (mem_keysM.2 ⟨p.2, hp⟩))
  show strOf (litOf P k kS p.1) = p.1
  rw [h2]
  have h3 := Value.string.inj h1
  show s.data.toList = p.1
  rw [← h3]
/-- Keys that are sorted. -/
def SortedK (ks : List (List UInt8)) : Prop := ks.Pairwise (fun a b => a ≤ b)
theorem sorted_merge (ss : List (List UInt8)) : SortedK (ss.mergeSort (fun x y => decide (x ≤ y))) := by
  have hr : ∀ a b c : List UInt8, decide (a ≤ b) = true → decide (b ≤ c) = true → decide (a ≤ c) = true := fun a b c h1 h2 => by simp only [decide_eq_true_eq] at *; exact List.le_trans h1 h2
  have ho : ∀ a b : List UInt8, (decide (a ≤ b) || decide (b ≤ a)) = true := fun a b => by simp only [Bool.or_eq_true, decide_eq_true_eq]; exact List.le_total a b
  exact (List.pairwise_mergeSort hr ho ss).imp fun h => by simpa using h
theorem none_rowB {a b c : World} {r : Option Nat} (h : a.grownBy b none) (k : b.grownBy c r) (hr : ∀ g, r = some g → a.heap.size ≤ g) : a.grownBy c none := by
  cases r with
  | none => exact grown_trans' h k
  | some g => exact none_new h k (hr g rfl)
/-- What a listing gives: in the order of the keys, each once. -/
def ListedM {β : Type} (M : List (List UInt8 × β)) (ks : List (List UInt8)) : Prop := ks.Perm (keysM M) ∧ SortedK ks
set_option maxRecDepth 10000 in
theorem rowNd : RowT Tryz.prog 43 63 5 := ⟨Tryz.underlying43, by
  refine ⟨_, _, rfl, rfl, rfl, ?_, rfl⟩
  decide, by omega⟩
/-- The row of keys, as a slice of one cell each. -/
theorem keys_row {w : World} {base : Nat} {t : TypeId} {v : Value} {ks : List (List UInt8)} {n : Nat} (hn : n = ks.length) (h : w.ownsRow base t 1 v n (ks.map Go.Proofs.encStr)) : RowX w base t 1 v (ks.map fun x => [kS x]) := by
  subst hn
  refine ⟨?_, fun c hc => ?_⟩
  · rw [List.length_map]
    have : (ks.map fun x => [kS x]).flatten = ks.map Go.Proofs.encStr := by
      clear h
      induction ks with
      | nil => rfl
      | cons x ks ih => rw [List.map_cons, List.flatten_cons, ih]; rfl
    rw [this]
    exact h
  · obtain ⟨x, _, rfl⟩ := List.mem_map.1 hc
    rfl

theorem own_ne_row {w : World} {base base' sz : Nat} {e : TypeId} {dv v : Value} {l : List UInt8} {Cs : List (List Value)} (ho : OwnB w base 5 dv l) (hr : RowX w base' e sz v Cs) (hne : e ≠ 5) : dv.ownBlock = none ∨ dv.ownBlock ≠ v.ownBlock := by
  rcases ho.2 with ⟨rfl, _⟩ | ⟨g, cap, cur, rfl, hb, hg, _⟩
  · exact .inl rfl
  · right
    intro e
    exact hr.ne_cells hg hne (by rw [← e]; rfl)
/-- A copy of the node at x. -/
def NodeAt (w w' : World) (base : Nat) (M : List (List UInt8 × Nd)) (x : List UInt8) (c : List Value) : Prop :=
  ∃ n l dv, M.lookup x = some n ∧ OwnB w 0 5 n.data l ∧ OwnB w' base 5 dv l ∧ c = nodeC ⟨x.toArray⟩ n.dir n.owner n.mode dv
def NodesAt (w w' : World) (base : Nat) (M : List (List UInt8 × Nd)) (xs : List (List UInt8)) (cs : List (List Value)) : Prop :=
  cs.length = xs.length ∧ ∀ (i : Nat) (x : List UInt8) (c : List Value), xs[i]? = some x → cs[i]? = some c → NodeAt w w' base M x c
theorem NodesAt.kept {w w' w2 : World} {base : Nat} {M : List (List UInt8 × Nd)} {xs : List (List UInt8)} {cs : List (List Value)} (h : NodesAt w w' base M xs cs) {r : Option Nat} (hg : w'.grownBy w2 r) (hr : ∀ dv l, OwnB w' base 5 dv l → dv.ownBlock = none ∨ dv.ownBlock ≠ r) : NodesAt w w2 base M xs cs :=
  ⟨h.1, fun i x c hx hc => by
    obtain ⟨n, l, dv, h1, h2, h3, h4⟩ := h.2 i x c hx hc
    exact ⟨n, l, dv, h1, h2, World.ownsRow.kept h3 hg (hr dv l h3), h4⟩⟩
theorem NodesAt.none {w w' w2 : World} {base : Nat} {M : List (List UInt8 × Nd)} {xs : List (List UInt8)} {cs : List (List Value)} (h : NodesAt w w' base M xs cs) (hg : w'.grownBy w2 none) : NodesAt w w2 base M xs cs :=
  h.kept hg fun dv l _ => by cases dv.ownBlock <;> simp
theorem NodesAt.push {w w' : World} {base : Nat} {M : List (List UInt8 × Nd)} {xs : List (List UInt8)} {cs : List (List Value)} {x : List UInt8} {c : List Value} (h : NodesAt w w' base M xs cs) (hn : NodeAt w w' base M x c) : NodesAt w w' base M (xs ++ [x]) (cs ++ [c]) := by
  refine ⟨by rw [List.length_append, List.length_append, h.1]; rfl, fun i y d hy hd => ?_⟩
  by_cases hi : i < xs.length
  · rw [List.getElem?_append_left hi] at hy
    rw [List.getElem?_append_left (by rw [h.1]; exact hi)] at hd
    exact h.2 i y d hy hd
  · rw [List.getElem?_append_right (by omega)] at hy
    rw [List.getElem?_append_right (by rw [h.1]; omega)] at hd
    have h0 : i - xs.length = 0 := by
      rcases Nat.eq_zero_or_pos (i - xs.length) with h | h
      · exact h
      · rw [List.getElem?_eq_none (by simp; omega)] at hy; cases hy
    rw [h0] at hy
    rw [h.1, h0] at hd
    cases hy
    cases hd
    exact hn
/-- Paths and owners aren't long. -/
def Short (M : List (List UInt8 × Nd)) : Prop := ∀ p n, (p, n) ∈ M → p.length ≤ 1000000 ∧ n.owner.size ≤ 1000000

set_option maxRecDepth 10000 in
set_option maxHeartbeats 4000000 in
theorem nodes_any (w : World) (tb mb : Nat) (M : List (List UInt8 × Nd)) (h : TS w tb mb M) (hlen : M.length ≤ 1000000) (hsh : Short M) :
    Calls Tryz.prog 29 #[.pointer (some ⟨tb, 0, none⟩)] w fun e w' => ∃ v ks cs, e = .returned v ∧ ListedM M ks ∧ RowX w' w.heap.size 63 5 v cs ∧ NodesAt w w' w.heap.size M ks cs ∧ w.grownBy w' none := by
  have q0 : w.cell? ⟨tb, 0, none⟩ = some (.map (some mb)) := (cell_box h.tr.top).1
  have HS := Lib.hid h
  have HSH := Lib.hid hsh
  have HLN := Lib.hid hlen
  have HM := Lib.hid h.tr.map.2
  have HFM := Lib.hid h.tr.map.1
  have HG := Lib.hid (grown_alloc w (.cells #[.map (some mb)] 94) none)
  have HD := Lib.hid (show Maps.size (datM Tryz.prog 9 kS vN M) ≤ maxLen ∧ Maps.size (datM Tryz.prog 9 kS vN M) * 16 ≤ 140737488355328 by rw [size_datM]; unfold maxLen; omega)
  clear h hlen hsh
  go_enter Tryz.func29, Tryz.ntmps29
  go_wp2_with (first
    | (go_at_call 73; refine (callsIn_wide.1 (sh_maps_Keys_73 (some mb) _)).mono ?_; rintro e w1 ⟨rfl, rfl⟩)
    | (go_at_call 72; refine (callsIn_wide.1 (sh_slices_Sorted_keys_72_73 mb _ _ RV w HM.out HD.out.1 HD.out.2)).mono ?_; rintro e w1 ⟨v, ss, rfl, hss, hrow, -, hb⟩; have G1 := Lib.hid (grown_trans' HG.out (none_of_below hb (Nat.le_refl _)))
       obtain ⟨ks, hks, hl⟩ : ∃ ks : List (List UInt8), ks = ss.mergeSort (fun x y => decide (x ≤ y)) ∧ ss.length = ks.length := ⟨_, rfl, (List.Perm.length_eq (List.mergeSort_perm _ _)).symm⟩
       have HKS := Lib.hid (show ListedM M ks from ⟨by rw [hks]; exact (List.mergeSort_perm _ _).trans (hss.trans (strKeys_datM Tryz.underlying9 HFM.out)), by rw [hks]; exact sorted_merge ss⟩)
       rw [← hks] at hrow
       obtain ⟨A, cap, hv, hsr, -⟩ := (keys_row hl hrow).shape
       obtain ⟨n, hn⟩ : ∃ n, n = ks.length := ⟨_, rfl⟩
       rw [List.length_map, ← hn] at hv
       subst hv
       have HSR := Lib.hid hsr; have HN := Lib.hid hn
       have HNM := Lib.hid (show n ≤ 1000000 by rw [hn, HKS.out.1.length_eq]; unfold keysM; rw [List.length_map]; exact HLN.out)
       clear hss hrow hb hks hl hsr hn))
  have S1 := Lib.hid (HS.out.below (below_of_none G1.out))
  have HR1 := Lib.hid (RowX.nil_ w1 w1.heap.size 63 5)
  clear q0
  go_loopw [3, 13] (fun vl i wr => ∃ (k : Nat) (cs : List (List Value)), k ≤ n ∧ i = .int .i64 k ∧ RowX wr w1.heap.size 63 5 vl cs ∧ Hid (NodesAt w wr w.heap.size M (ks.take k) cs) ∧ w1.grownBy wr none) (fun _ i _ => n - (intOf i).toNat)
  case atStart => exact ⟨0, [], Nat.zero_le _, rfl, HR1.out, ⟨rfl, fun i x c hx => by simp at hx⟩, World.grownBy.refl w1 none⟩
  case round =>
    obtain ⟨k, cs, hk, rfl, hRL, HNA, hW⟩ := hrel
    have HRL := Lib.hid hRL
    have HW := Lib.hid hW
    have SR1 := Lib.hid (S1.out.below (below_of_none hW))
    have hn0 := HNM.out
    by_cases hlt : k < n
    · obtain ⟨x, hx⟩ : ∃ x, x = ks[k]'(by rw [← HN.out]; exact hlt) := ⟨_, rfl⟩
      have hxm : x ∈ keysM M := HKS.out.1.mem_iff.1 (by rw [hx]; exact List.getElem_mem _)
      obtain ⟨nd, hnd⟩ : ∃ nd, M.lookup x = some nd := by
        cases hl : M.lookup x with
        | none => exact absurd hxm (lookup_out hl)
        | some nd => exact ⟨nd, rfl⟩
      have hin := lookup_in hnd
      obtain ⟨l, hol, hll⟩ := HS.out.row _ _ hin
      have hor : OwnB wr 0 5 nd.data l := hol.below (below_of_none (grown_trans' G1.out hW))
      obtain ⟨Ad, cd, hdv, hrb, -⟩ := hor.shape
      have HTK := Lib.hid (show ks.take (k + 1) = ks.take k ++ [x] by rw [List.take_succ_eq_append_getElem (by rw [← HN.out]; exact hlt), hx])
      obtain ⟨ab, ao, hAe, hab, hcells⟩ := HSR.out.elem (k := k) (by rw [List.length_map, ← HN.out]; exact hlt)
      have hce : (ks.map fun x => [kS x])[k]'(by rw [List.length_map, ← HN.out]; exact hlt) = [kS x] := by rw [List.getElem_map, hx]
      rw [hce] at hcells
      have hc0 := ((below_of_none HW.out).cell (p := ⟨ab, ao + 1 * k + 0, none⟩) hab).trans (hcells 0 _ rfl)
      rw [Nat.one_mul, Nat.add_zero] at hc0
      have q1 : wr.cell? ⟨ab, ao + k, none⟩ = some (.string ⟨x.toArray⟩) := hc0
      have q0 : wr.cell? ⟨tb, 0, none⟩ = some (.map (some mb)) := (cell_box SR1.out.tr.top).1
      have hxs : (⟨x.toArray⟩ : ByteArray).data.toList = x := rfl
      have hLK : (Instr.lookup 94 (.map (some mb)) (.string ⟨x.toArray⟩) false).run Tryz.prog wr = .ok (.pointer (some ⟨nd.blk, 0, none⟩)) wr := by
        have := run_lookP SR1.out.tr ⟨x.toArray⟩ (by rw [hxs]; exact (HSH.out _ _ hin).1)
        rw [hxs, hnd] at this
        exact this
      have HC := Lib.hid (SR1.out.tr.nodes _ _ hin).1
      rw [hdv] at HC
      have AP := Lib.hid (apart_any wr ⟨x.toArray⟩ nd.owner nd.dir nd.mode Ad l cd l.length rfl hrb hll (HSH.out _ _ hin).1 (HSH.out _ _ hin).2)
      have HOL := Lib.hid hol
      have HND := Lib.hid hnd
      have HLR := Lib.hid (show cs.length ≤ 1000000000 by rw [HNA.out.1, List.length_take]; omega)
      have HSZ := Lib.hid HW.out.size
      subst hAe
      obtain ⟨ll, hll2⟩ : ∃ ll, l.length = ll := ⟨_, rfl⟩
      rw [hll2] at HC AP
      clear hce hcells hc0 hx hxm hRL hW hin hol hll hor hdv hrb hnd hll2 hxs
      go_wp2_with (first
        | refine wpList_loadC (off := 0) (p := nodeC ⟨x.toArray⟩ nd.dir nd.owner nd.mode (.slice Ad ll cd)) aggNd rfl (.tmp 24) rfl HC.out rfl (Nat.le_refl _) rfl ?_
        | (go_at_call 74; refine AP.out.mono ?_; rintro r w3 ⟨A3, c3, rfl, o3, b3⟩; have g3 := none_of_below b3 (Nat.le_refl _); have W3 := Lib.hid (grown_trans' HW.out g3); have RL3 := Lib.hid (HRL.out.none g3); have NA3 := Lib.hid (HNA.out.none g3); have O3 := Lib.hid (OwnB.base_ o3 (Nat.le_trans G1.out.size HW.out.size)); have SZ3 := Lib.hid (Nat.le_trans HSZ.out g3.size); have TK3 := Lib.hid True.intro; clear g3 b3 o3)
        | (have hx := TK3; clear hx TK3; refine wpList_lit1 (p := nodeC ⟨x.toArray⟩ nd.dir nd.owner nd.mode (.slice A3 ll c3)) Tryz.underlying43 aggNd.hi zeroNd_run rfl (by omega) (by omega) rfl (.tmp 26) rfl rfl ?_
           have RL4 := Lib.hid (RL3.out.none (grown_alloc w3 (.cells (nodeC ⟨x.toArray⟩ nd.dir nd.owner nd.mode (.slice A3 ll c3)).toArray 63) none)); have NA4 := Lib.hid (NA3.out.none (grown_alloc w3 (.cells (nodeC ⟨x.toArray⟩ nd.dir nd.owner nd.mode (.slice A3 ll c3)).toArray 63) none)); have O4 := Lib.hid (O3.out.alloc (.cells (nodeC ⟨x.toArray⟩ nd.dir nd.owner nd.mode (.slice A3 ll c3)).toArray 63)); have C4 := Lib.hid (CB.new w3 63 (nodeC ⟨x.toArray⟩ nd.dir nd.owner nd.mode (.slice A3 ll c3))); have W4 := Lib.hid (grown_trans' W3.out (grown_alloc w3 (.cells (nodeC ⟨x.toArray⟩ nd.dir nd.owner nd.mode (.slice A3 ll c3)).toArray 63) none)); have TK4 := Lib.hid True.intro)
        | (have hx := TK4; clear hx TK4; refine wpList_appX rowNd rfl (.tmp 17) (.tmp 27) rfl (b := w3.heap.size) (off := 0) (c := 1) RL4.out (fun j v hj => by have := C4.out.at_ hj; rwa [Nat.zero_add]) rfl (nd_one _ _ _ _ _ _ _) rfl rfl HLR.out (Nat.le_trans SZ3.out (by rw [World.size_alloc]; omega)) ?_
           intro v' w5 h5 g5 a5; have RL5 := Lib.hid h5; have NA5 := Lib.hid ((NA4.out.kept g5 (fun dv l ho => own_ne_row ho RL4.out (by decide))).push ⟨nd, l, _, HND.out, HOL.out, World.ownsRow.kept O4.out g5 (own_ne_row O4.out RL4.out (by decide)), rfl⟩); have W5 := Lib.hid (none_rowB W4.out g5 (fun g hg => (RL4.out.lt g hg).1)); clear h5 g5 a5))
      go_roundw
      case rel => exact ⟨k + 1, _, by omega, by go_num, RL5.out, by rw [HTK.out]; exact NA5.out, W5.out⟩
      case measure => simp [intOf]; omega
    · have hkn : k = n := by omega
      have HNF := HNA.out
      rw [hkn, HN.out, List.take_length] at HNF
      have HN2 := Lib.hid HNF
      clear HNF hRL hW
      go_wp2
      go_ret
      exact ⟨_, ks, cs, rfl, HKS.out, HRL.out.base_ G1.out.size, HN2.out, grown_trans' G1.out HW.out⟩
end Go.Proofs.YtlkchajkhplapaaGreatDoor
