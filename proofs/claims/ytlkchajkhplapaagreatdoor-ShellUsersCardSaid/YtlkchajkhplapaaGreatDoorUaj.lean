/- The document's Names. -/
import Derived.Test.YtlkchajkhplapaaGreatDoorUai
namespace Go.Proofs.YtlkchajkhplapaaGreatDoor
open Go.RowKit Go.Maps Go.WideMaps

theorem rowX_at {w : World} {base g cap n sz k j : Nat} {e : TypeId} {Cs : List (List Value)} {c : List Value} {u : Value} (h : RowX w base e sz (.slice (some ⟨g, 0, none⟩) n cap) Cs) (hk : Cs[k]? = some c) (hj : c[j]? = some u) : w.cell? ⟨g, sz * k + j, none⟩ = some u := by
  obtain ⟨A, c', hv, hs, -⟩ := h.shape
  injection hv with hv1 hv2 hv3
  subst hv1
  obtain ⟨hkl, hke⟩ := List.getElem?_eq_some_iff.1 hk
  obtain ⟨b, off, he, -, hc⟩ := hs.elem hkl
  injection he with he
  injection he with h1 h2
  subst h1 h2
  have := hc j u (by rw [hke]; exact hj)
  rwa [Nat.zero_add] at this
theorem wpList_storeRow {P : Program} {w : World} {ops : Array Oper} {rest : List Oper} {o : Oper} {a : Act} {Q : Exit → Act → World → Prop} {ty e : TypeId} {base g cap n sz k j off : Nat} {Cs : List (List Value)} {c : List Value} {u : Value} (hi : (P.info? ty).map (·.size) = some 1) (hgd : o.guard = none) (x y : Operand) (ho : o.op = .store ty x y)
    (hrow : RowX w base e sz (.slice (some ⟨g, 0, none⟩) n cap) Cs) (hn : Cs.length = n) (hk : Cs[k]? = some c) (hj : j < sz) (hu : u.cells = #[u]) (h1 : u.oneCell' = true) (hoff : off = sz * k + j) (hx : a.eval x = .pointer (some ⟨g, off, none⟩)) (hy : a.eval y = u)
    (hK : ∀ w', RowX w' base e sz (.slice (some ⟨g, 0, none⟩) n cap) (Cs.set k (c.set j u)) → w.grownBy w' (some g) → wpList P ops Q rest (a.put o.dst undef) w') : wpList P ops Q (o :: rest) a w := by
  subst hn hoff
  have hkl := (List.getElem?_eq_some_iff.1 hk).1
  obtain ⟨g', cap', cs, hv, -, hcb, hnc, hcz, -, -⟩ := rowX_open hrow (by omega)
  injection hv with hv1 hv2 hv3
  injection hv1 with hv1
  injection hv1 with hv1
  subst hv1 hv3
  have hb : sz * k + j + 1 ≤ cs.length := by
    rw [hcz]
    have h2 := Nat.mul_le_mul_right sz (show k + 1 ≤ cap by omega)
    rw [Nat.succ_mul, Nat.mul_comm k sz] at h2
    omega
  refine wpList_storeC (off := sz * k + j) (p := [u]) hi hgd x y ho u hu (by intro z hz; rw [List.mem_singleton.1 hz]; exact h1) hcb rfl hb hx hy ?_
  intro w' h4 g4
  exact hK w' (rowX_cell hrow hk hj hcb h4) g4
/-- A name put behind the others, and moved to its place. -/
theorem ins_sorted {a b : List (List UInt8)} {nm : List UInt8} (hs : SortedK (a ++ b)) (hb : ∀ y ∈ b, nm < y) (ha : ∀ z, a.getLast? = some z → ¬ nm < z) : SortedK (a ++ nm :: b) := by
  unfold SortedK at hs ⊢
  obtain ⟨h1, h2, h3⟩ := List.pairwise_append.1 hs
  refine List.pairwise_append.2 ⟨h1, List.pairwise_cons.2 ⟨fun y hy => List.le_of_lt (hb y hy), h2⟩, fun x hx y hy => ?_⟩
  rcases List.mem_cons.1 hy with rfl | hy
  · rcases List.eq_nil_or_concat a with rfl | ⟨a', z, rfl⟩
    · cases hx
    · have hz := List.not_lt.1 (ha z (by simp))
      have hx' : x ∈ a' ++ [z] := by simpa using hx
      rcases List.mem_append.1 hx' with hx | hx
      · have h4 : (a' ++ [z]).Pairwise (fun a b => a ≤ b) := by simpa using h1
        exact List.le_trans ((List.pairwise_append.1 h4).2.2 x hx z (by simp)) hz
      · rw [List.mem_singleton.1 hx]; exact hz
  · exact h3 x hx y hy
theorem name_drop {p a b d : List UInt8} (hok : pathOk p = true) (hab : p = a ++ 47 :: b) (hb : (47 : UInt8) ∉ b) (hd : parOf p = d) (hne : p ≠ [47]) : (d = [47] ∧ p.drop 1 = b) ∨ (d ≠ [47] ∧ p.drop d.length = 47 :: b ∧ d.length < p.length) := by
  have hpo := parOf_eq hab hb
  obtain ⟨t, ht⟩ := path_head hok
  match a, hab, hpo with
  | [], hab, hpo =>
    left
    rw [hpo] at hd
    subst hab
    exact ⟨hd.symm, rfl⟩
  | [x], hab, hpo =>
    exfalso
    have hx : x = 47 := by rw [hab] at ht; injection ht
    subst hx
    rw [hab] at hok
    have h1 : ((([47] ++ 47 :: b : List UInt8)) == [47]) = false := beq_eq_false_iff_ne.2 (by simp)
    rw [pathOk, h1] at hok
    have h2 : pieces1 47 (([47] ++ 47 :: b : List UInt8)).tail = [] :: pieces1 47 b := rfl
    rw [h2] at hok
    simp [nameOk] at hok
  | x :: y :: a', hab, hpo =>
    right
    have hl : (max (x :: y :: a').length 1) = (x :: y :: a').length := by simp
    rw [hl, hab, List.take_left'  rfl, ← hab] at hpo
    rw [hpo] at hd
    subst hd
    refine ⟨by simp, ?_, by rw [hab]; simp⟩
    rw [hab, List.drop_left' rfl]

/-- What Names answers. -/
def NmR (w : World) (N : List (List UInt8 × Nd)) (d : List UInt8) (e : Ending) (w' : World) : Prop := ∃ v' ss, e = .returned v' ∧ Named N d ss ∧ RowX w' w.heap.size 9 1 v' (ss.map fun x => [kS x]) ∧ w.grownBy w' none
theorem swap_set {α β : Type} : ∀ (a2 b1 : List α) (z b : α) (f : α → β), ((((a2 ++ ([z] ++ b :: b1)).map f).set (a2.length + 1) (f z)).set a2.length (f b)) = (a2 ++ b :: z :: b1).map f
  | [], b1, z, b, f => rfl
  | x :: a2, b1, z, b, f => by
    have ih := swap_set a2 b1 z b f
    simp only [List.cons_append, List.map_cons, List.length_cons, List.set_cons_succ] at ih ⊢
    rw [← ih]
set_option maxRecDepth 10000 in
set_option maxHeartbeats 8000000 in
theorem rnames_any (w : World) (rb : Nat) (v : Value) (N : List (List UInt8 × Nd)) (h : RT w rb v N) (hok : ∀ x ∈ N, pathOk x.1 = true ∧ x.1.length ≤ 300) (ds : ByteArray) (d : List UInt8) (hds : ds.data.toList = d) (hdl : d.length ≤ 300) :
    Calls Tryz.prog 56 #[.pointer (some ⟨rb, 0, none⟩), .string ds] w fun e w' => NmR w N d e w' := by
  have HT := Lib.hid h
  have HOK := Lib.hid hok
  have HDS := Lib.hid hds
  have HDL := Lib.hid hdl
  have hdz : ds.size = d.length := by rw [← hds]; rfl
  have HDZ := Lib.hid hdz
  obtain ⟨n, hn⟩ : ∃ n, N.length = n := ⟨_, rfl⟩
  have HN := Lib.hid hn
  have HN64 := Lib.hid (show n ≤ 64 by rw [← hn]; exact h.len)
  obtain ⟨A0, cap0, hv, hsr⟩ := h.open_
  have htop := h.top
  rw [hv, hn] at htop
  have HTP := Lib.hid htop
  have HSR := Lib.hid hsr
  clear h hok hds hdl hdz hn hv hsr htop
  go_enter Tryz.func56, Tryz.ntmps56
  go_wp2
  go_loopw [5, 6, 7, 8, 9, 10] (fun ov iv _ _ _ _ wr => ∃ (i : Nat) (ss : List (List UInt8)), i ≤ n ∧ iv = .int .i64 i ∧ RowX wr w.heap.size 9 1 ov (ss.map fun x => [kS x]) ∧ Hid (w.grownBy wr none) ∧ Hid (ss.Perm (((keysM (N.take i)).filter (kidB d)).map lastOf)) ∧ Hid (SortedK ss)) (fun _ iv _ _ _ _ _ => n - (intOf iv).toNat)
  case atStart => exact ⟨0, [], Nat.zero_le _, rfl, RowX.new0 _ _ _ _ (Nat.le_refl _), grown_alloc _ _ _, List.Perm.refl _, List.Pairwise.nil⟩
  case round =>
    obtain ⟨i, ss, hi, rfl, hrow, HW, HPE, HSO⟩ := hrel
    have HROW := Lib.hid hrow
    have hn0 := HN64.out
    have q0 := (HTP.out.kept HW.out).at_ (i := 0) (v := .slice A0 n cap0) rfl
    clear hrow
    by_cases hlt : i < n
    · have hii : (i : Int) < (n : Int) := by omega
      have hiN : i < N.length := by rw [HN.out]; exact hlt
      obtain ⟨x, hx⟩ : ∃ x, N[i] = x := ⟨_, rfl⟩
      obtain ⟨ab, ao, rfl, hab, hcl⟩ := HSR.out.elem (k := i) (by rw [List.length_map]; exact hiN)
      have HX := Lib.hid (show N[i]? = some x by rw [List.getElem?_eq_getElem hiN, hx])
      obtain ⟨p, hp⟩ : ∃ p, x.1 = p := ⟨_, rfl⟩
      obtain ⟨ps, hps⟩ : ∃ ps : ByteArray, ps = ⟨p.toArray⟩ := ⟨_, rfl⟩
      have q1 : wr.cell? ⟨ab, ao + i * 5, none⟩ = some (.string ps) := by
        have h1 := ((below_of_none HW.out).cell (p := ⟨ab, ao + 5 * i + 0, none⟩) hab).trans (hcl 0 (.string ps) (by rw [List.getElem_map, hx, hps, ← hp]; rfl))
        rwa [Nat.mul_comm, Nat.add_zero] at h1
      have hxo := HOK.out x (List.mem_of_getElem? HX.out)
      rw [hp] at hxo
      have HXO := Lib.hid hxo
      have HPS := Lib.hid (show ps.data.toList = p by rw [hps])
      have HPZ := Lib.hid (show ps.size = p.length by rw [hps]; rfl)
      have HSS := Lib.hid (show ss.length ≤ 64 by
        rw [HPE.out.length_eq, List.length_map]
        have h1 := List.length_filter_le (kidB d) (keysM (N.take i))
        unfold keysM at h1 ⊢
        rw [List.length_map, List.length_take] at h1
        omega)
      have hkt : keysM (N.take (i + 1)) = keysM (N.take i) ++ [p] := by
        unfold keysM
        rw [List.take_succ_eq_append_getElem hiN, List.map_append, hx, List.map_cons, List.map_nil, hp]
      have HKT := Lib.hid hkt
      clear hcl hab hx hxo hkt
      by_cases h47 : p = [47]
      · have hpe : ps = ⟨#[47]⟩ := by rw [hps, h47]
        have HKD := Lib.hid (show ((keysM (N.take (i + 1))).filter (kidB d)).map lastOf = ((keysM (N.take i)).filter (kidB d)).map lastOf by
          rw [HKT.out, List.filter_append, List.filter_cons, if_neg (by rw [h47]; unfold kidB; simp), List.filter_nil, List.append_nil])
        subst hpe
        clear hps h47
        go_wp2
        go_roundw
        case rel => exact ⟨i + 1, ss, by omega, by go_num, HROW.out, HW.out, by rw [HKD.out]; exact HPE.out, HSO.out⟩
        case measure => simp [intOf]; omega
      · have n1 := str_ne (a := ps) (b := ⟨#[47]⟩) (fun e => h47 (by rw [← HPS.out, e]))
        have n1' : (ps.toList == [47]) = false := by rw [show ([47] : List UInt8) = (⟨#[47]⟩ : ByteArray).toList from by rw [ByteArray.toList_eq]]; exact n1
        clear n1
        obtain ⟨a, b, hab, hb, -⟩ := parent_on HXO.out.1 h47
        obtain ⟨pr, hpr⟩ : ∃ pr : ByteArray, pr = ⟨(parOf p).toArray⟩ := ⟨_, rfl⟩
        have PA := Lib.hid (fun W => refParent_any ps p a b HPS.out hab hb (by rw [HPZ.out]; have := HXO.out.2; omega) W)
        rw [← hpr] at PA
        by_cases hk : parOf p = d
        · have hprd : pr = ds := by rw [hpr, hk, ← bytes_of HDS.out]
          rw [hprd] at PA
          have HND := Lib.hid (name_drop HXO.out.1 hab hb hk h47)
          have HLA := Lib.hid (lastOf_eq hab hb)
          have HKD := Lib.hid (show ((keysM (N.take (i + 1))).filter (kidB d)).map lastOf = ((keysM (N.take i)).filter (kidB d)).map lastOf ++ [b] by
            rw [HKT.out, List.filter_append, List.filter_cons, if_pos (by unfold kidB; rw [decide_eq_true h47, decide_eq_true hk]; rfl), List.filter_nil, List.map_append, List.map_cons, List.map_nil, HLA.out])
          have hdp : d.length ≤ p.length := by
            rcases HND.out with ⟨e, -⟩ | ⟨-, -, e⟩
            · rw [e, hab]; simp; omega
            · omega
          have hds1 : (ds.size : Int) ≤ (ps.size : Int) := by rw [HDZ.out, HPZ.out]; omega
          have hpz5 : ps.size ≤ 300 := by rw [HPZ.out]; exact HXO.out.2
          obtain ⟨bs, hbs⟩ : ∃ bs : ByteArray, bs = ⟨b.toArray⟩ := ⟨_, rfl⟩
          have HBS := Lib.hid (show Value.string bs = kS b by rw [hbs, kS])
          have TKN := Lib.hid True.intro
          clear hpr hprd hk hab hb h47 hps hdp hp
          -- the name
          have key : (ds = ⟨#[47]⟩ ∧ ps.extract ds.size ps.size = bs) ∨ ((ds.toList == [47]) = false ∧ ∃ ns : ByteArray, ps.extract ds.size ps.size = ns ∧ ns.extract 1 ns.size = bs ∧ 1 ≤ ns.size) := by
            have hex : ps.extract ds.size ps.size = ⟨(p.drop d.length).toArray⟩ := bytes_of (by rw [ext_data ps p HPS.out, HPZ.out, HDZ.out, List.take_of_length_le (Nat.le_refl _)])
            rcases HND.out with ⟨e, e2⟩ | ⟨e, e2, -⟩
            · left
              refine ⟨by rw [bytes_of HDS.out, e], ?_⟩
              rw [hex, hbs, e]
              rw [show ([47] : List UInt8).length = 1 from rfl, e2]
            · right
              have n2 := str_ne (a := ds) (b := ⟨#[47]⟩) (fun q => e (by rw [← HDS.out, q]))
              refine ⟨by rw [show ([47] : List UInt8) = (⟨#[47]⟩ : ByteArray).toList from by rw [ByteArray.toList_eq]]; exact n2, _, hex, ?_, ?_⟩
              · rw [e2, hbs]
                exact bytes_of (by rw [ext_data _ (47 :: b) rfl]; show List.drop 1 ((47 :: b).take (47 :: b).toArray.size) = b; simp)
              · rw [e2]; show 1 ≤ (47 :: b).toArray.size; simp
          have KEY := Lib.hid key
          clear key hbs
          have APPEND : True := trivial
          obtain ⟨m, hm⟩ : ∃ m, ss.length = m := ⟨_, rfl⟩
          obtain ⟨L, hL⟩ : ∃ L, L = m + 1 := ⟨_, rfl⟩
          have HM := Lib.hid hm
          have HL := Lib.hid hL
          have HM64 := Lib.hid (show m ≤ 64 by rw [← hm]; exact HSS.out)
          have hL0 : L ≤ 65 := by have := HM64.out; omega
          have hL1 : (L : Int) - 1 = (m : Int) := by omega
          clear hm hL
          rcases KEY.out with ⟨hd47, hex⟩ | ⟨n2, ns, hex, hex2, hns⟩
          · subst hd47
            have hex1 : ps.extract 1 ps.size = bs := hex
            have h1p : (1 : Int) ≤ (ps.size : Int) := hds1
            clear hex KEY HND hds1
            go_wp2_with (first
              | (go_at_call 55; refine (PA.out _).mono ?_; rintro e w2 ⟨rfl, rfl⟩)
              | (refine wpList_appX rowS rfl (.tmp 45) (.tmp 47) rfl (p := [.string bs]) (b := w2.heap.size) (off := 0) (c := 1) (HROW.out.none (grown_alloc w2 (.cells #[.string bs] 9) none)) (fun j v hj => by have := (CB.new w2 9 [.string bs]).at_ hj; rwa [Nat.zero_add]) rfl (by simp [Value.oneCell']) (by first | rfl | go_simp) (by first | rfl | go_simp) (by rw [List.length_map]; have := HSS.out; omega) (by rw [World.size_alloc]; have := HW.out.size; omega) ?_
                 intro v5 w5 h5 g5 a5
                 have W5 := Lib.hid (none_rowB (grown_trans' HW.out (grown_alloc w2 (.cells #[.string bs] 9) none)) g5 (fun g hg => (HROW.out.lt g hg).1))
                 have hr5 : RowX w5 w.heap.size 9 1 v5 ((ss ++ [b]).map fun x => [kS x]) := by rw [List.map_append]; rw [HBS.out] at h5; exact h5
                 obtain ⟨g, cap, cs5, hv5, hgb, hcb5, hnc5, hcz5, hcs5, hcm⟩ := rowX_open hr5 (by simp)
                 have hlen5 : (List.map (fun x => [kS x]) (ss ++ [b])).length = m + 1 := by rw [List.length_map, List.length_append, HM.out]; rfl
                 rw [hlen5, ← HL.out] at hv5
                 subst hv5
                 have HR5 := Lib.hid hr5
                 have HGB := Lib.hid hgb
                 clear h5 g5 a5 hr5 hgb hcb5 hnc5 hcz5 hcs5 hcm hlen5))
            go_loopw [9, 10] (fun kv _ wr => ∃ (q : Nat) (a1 b1 : List (List UInt8)), kv = .int .i64 q ∧ q ≤ m ∧ Hid (a1.length = q) ∧ Hid (ss = a1 ++ b1) ∧ Hid (∀ y ∈ b1, b < y) ∧ Hid (RowX wr w.heap.size 9 1 (.slice (some ⟨g, 0, none⟩) L cap) ((a1 ++ b :: b1).map fun x => [kS x])) ∧ Hid (w.grownBy wr none)) (fun kv _ _ => (intOf kv).toNat)
            case atStart => exact ⟨m, ss, [], by go_num, Nat.le_refl _, HM.out, (List.append_nil ss).symm, (fun y hy => by cases hy), HR5.out, W5.out⟩
            case round =>
              obtain ⟨q, a1, b1, rfl, hqm, HQ, HAB, HB1, HR2, HW2⟩ := hrel
              have hm64 := HM64.out
              by_cases hq0 : 0 < q
              · have hqi : (0 : Int) < (q : Int) := by omega
                obtain ⟨a2, z, ha2⟩ : ∃ a2 z, a1 = a2 ++ [z] := by
                  rcases List.eq_nil_or_concat a1 with e | ⟨a2, z, e⟩
                  · have := HQ.out; rw [e] at this; simp at this; omega
                  · exact ⟨a2, z, by rw [e, List.concat_eq_append]⟩
                obtain ⟨q2, hq2⟩ : ∃ q2, a2.length = q2 := ⟨_, rfl⟩
                have hqq2 : q = q2 + 1 := by have := HQ.out; rw [ha2, List.length_append, hq2] at this; simp at this; omega
                have hqq : (q : Int) - 1 = (q2 : Int) := by omega
                obtain ⟨zs, hzs⟩ : ∃ zs : ByteArray, zs = ⟨z.toArray⟩ := ⟨_, rfl⟩
                have c1 : wr.cell? ⟨g, q, none⟩ = some (.string bs) := by
                  have h1 := rowX_at (k := q) (j := 0) (u := .string bs) HR2.out (c := [kS b]) (by rw [List.getElem?_map, List.getElem?_append_right (by rw [HQ.out]; exact Nat.le_refl _), HQ.out, Nat.sub_self]; rfl) (by rw [HBS.out]; rfl)
                  rwa [Nat.one_mul, Nat.add_zero] at h1
                have c2 : wr.cell? ⟨g, q2, none⟩ = some (.string zs) := by
                  have h1 := rowX_at (k := q2) (j := 0) (u := .string zs) HR2.out (c := [kS z]) (by rw [List.getElem?_map, ha2, List.append_assoc, List.getElem?_append_right (by omega), hq2, Nat.sub_self]; rfl) (by rw [hzs]; rfl)
                  rwa [Nat.one_mul, Nat.add_zero] at h1
                have hqL : (q : Int) < (L : Int) := by have := HL.out; omega
                have hqL2 : (q2 : Int) < (L : Int) := by have := HL.out; omega
                have HA2 := Lib.hid ha2
                have HQ2 := Lib.hid hq2
                have HZS := Lib.hid hzs
                have hbl : bs.toList = b := by rw [ByteArray.toList_eq]; have h1 := HBS.out; unfold kS at h1; injection h1 with h1; rw [h1]
                have hzl : zs.toList = z := by rw [ByteArray.toList_eq, hzs]
                have HQQ := Lib.hid hqq2
                clear ha2 hq2 hzs hqq2
                by_cases hbz : b < z
                · have dl : Op.bytesLess bs.toList zs.toList = true := by rw [hbl, hzl, bytesLess_eq]; exact decide_eq_true hbz
                  have HBZ := Lib.hid hbz
                  clear hbz hbl hzl
                  have TK0 := Lib.hid True.intro
                  go_wp2
                  go_quiet (fail)
                  have HR3 := Lib.hid (HR2.out.none (drewN_grown wr nq))
                  have HW3 := Lib.hid (grown_trans' HW2.out (drewN_grown wr nq))
                  have c3 : (wr.drewN nq).cell? ⟨g, q, none⟩ = some (.string bs) := c1
                  have c4 : (wr.drewN nq).cell? ⟨g, q2, none⟩ = some (.string zs) := c2
                  clear c1 c2
                  generalize World.drewN wr nq = wz at *
                  go_wp2_with (first
                    | (have hx := TK0; clear hx TK0; refine wpList_storeRow (off := q) (sz := 1) (k := q) (j := 0) (c := [kS b]) (u := .string zs) szStr rfl (.tmp 79) (.tmp 78) rfl HR3.out (by have := HQ.out; have h2 := congrArg List.length HAB.out; rw [List.length_append, HM.out] at h2; have h3 := HL.out; simp; omega) (by rw [List.getElem?_map, List.getElem?_append_right (by rw [HQ.out]; exact Nat.le_refl _), HQ.out, Nat.sub_self]; rfl) (by omega) rfl rfl (by omega) (by first | rfl | go_simp) (by first | rfl | go_simp) ?_
                       intro w6 h6 g6
                       have HR6 := Lib.hid h6
                       have HW6 := Lib.hid (none_new HW3.out g6 HGB.out)
                       clear h6 g6 c3 c4
                       have TK1 := Lib.hid True.intro)
                    | (have hx := TK1; clear hx TK1; refine wpList_storeRow (off := q2) (sz := 1) (k := q2) (j := 0) (c := [kS z]) (u := .string bs) szStr rfl (.tmp 84) (.tmp 83) rfl HR6.out (by rw [List.length_set]; have := HQ.out; have h2 := congrArg List.length HAB.out; rw [List.length_append, HM.out] at h2; have h3 := HL.out; simp; omega) (by rw [List.getElem?_set_ne (by have := HQQ.out; omega), List.getElem?_map, HA2.out, List.append_assoc, List.getElem?_append_right (by have := HQ2.out; omega), HQ2.out, Nat.sub_self]; rfl) (by omega) rfl rfl (by omega) (by first | rfl | go_simp) (by first | rfl | go_simp) ?_
                       intro w7 h7 g7
                       have HR7 := Lib.hid h7
                       have HW7 := Lib.hid (none_new HW6.out g7 HGB.out)
                       clear h7 g7))
                  go_roundw
                  case rel =>
                    refine ⟨q2, a2, z :: b1, by go_num, by have := HQQ.out; omega, HQ2.out, by rw [HAB.out, HA2.out, List.append_assoc]; rfl, (fun y hy => ?_), ?_, HW7.out⟩
                    · rcases List.mem_cons.1 hy with rfl | hy
                      · exact HBZ.out
                      · exact HB1.out y hy
                    · have h := HR7.out
                      rw [show [kS b].set 0 (Value.string zs) = [kS z] by rw [HZS.out]; rfl, show [kS z].set 0 (Value.string bs) = [kS b] by rw [HBS.out]; rfl, HA2.out, HQQ.out, ← HQ2.out, List.append_assoc] at h
                      rw [← swap_set a2 b1 z b (fun x => [kS x])]
                      exact h
                  case measure => simp [intOf]; have := HQQ.out; omega
                · have dl : Op.bytesLess bs.toList zs.toList = false := by rw [hbl, hzl, bytesLess_eq]; exact decide_eq_false hbz
                  have HBZ := Lib.hid hbz
                  clear hbz hbl hzl
                  go_wp2
                  go_quiet (fail)
                  go_wp2
                  go_roundw
                  case rel => exact ⟨i + 1, a1 ++ b :: b1, by omega, by go_num, HR2.out.none (drewN_grown wr nq), grown_trans' HW2.out (drewN_grown wr nq), by rw [HKD.out]; exact ((List.perm_middle.trans (List.perm_append_singleton b (a1 ++ b1)).symm).trans (List.Perm.append_right [b] (by rw [← HAB.out]; exact HPE.out))), ins_sorted (by rw [← HAB.out]; exact HSO.out) HB1.out (fun y hy => by rw [HA2.out, List.getLast?_append] at hy; simp at hy; rw [← hy]; exact HBZ.out)⟩
                  case measure => simp [intOf]; omega
              · have hqi : ¬ (0 : Int) < (q : Int) := by omega
                have HA1 := Lib.hid (show a1 = [] from List.eq_nil_of_length_eq_zero (by have := HQ.out; omega))
                go_wp2
                go_quiet (fail)
                go_wp2
                go_roundw
                case rel => exact ⟨i + 1, a1 ++ b :: b1, by omega, by go_num, HR2.out.none (drewN_grown wr nq), grown_trans' HW2.out (drewN_grown wr nq), by rw [HKD.out]; exact ((List.perm_middle.trans (List.perm_append_singleton b (a1 ++ b1)).symm).trans (List.Perm.append_right [b] (by rw [← HAB.out]; exact HPE.out))), ins_sorted (by rw [← HAB.out]; exact HSO.out) HB1.out (fun y hy => by rw [HA1.out] at hy; cases hy)⟩
                case measure => simp [intOf]; omega
          · have hns1 : (1 : Int) ≤ (ns.size : Int) := by omega
            clear KEY HND
            go_wp2_with (first
              | (go_at_call 55; refine (PA.out _).mono ?_; rintro e w2 ⟨rfl, rfl⟩)
              | (refine wpList_appX rowS rfl (.tmp 45) (.tmp 47) rfl (p := [.string bs]) (b := w2.heap.size) (off := 0) (c := 1) (HROW.out.none (grown_alloc w2 (.cells #[.string bs] 9) none)) (fun j v hj => by have := (CB.new w2 9 [.string bs]).at_ hj; rwa [Nat.zero_add]) rfl (by simp [Value.oneCell']) (by first | rfl | go_simp) (by first | rfl | go_simp) (by rw [List.length_map]; have := HSS.out; omega) (by rw [World.size_alloc]; have := HW.out.size; omega) ?_
                 intro v5 w5 h5 g5 a5
                 have W5 := Lib.hid (none_rowB (grown_trans' HW.out (grown_alloc w2 (.cells #[.string bs] 9) none)) g5 (fun g hg => (HROW.out.lt g hg).1))
                 have hr5 : RowX w5 w.heap.size 9 1 v5 ((ss ++ [b]).map fun x => [kS x]) := by rw [List.map_append]; rw [HBS.out] at h5; exact h5
                 obtain ⟨g, cap, cs5, hv5, hgb, hcb5, hnc5, hcz5, hcs5, hcm⟩ := rowX_open hr5 (by simp)
                 have hlen5 : (List.map (fun x => [kS x]) (ss ++ [b])).length = m + 1 := by rw [List.length_map, List.length_append, HM.out]; rfl
                 rw [hlen5, ← HL.out] at hv5
                 subst hv5
                 have HR5 := Lib.hid hr5
                 have HGB := Lib.hid hgb
                 clear h5 g5 a5 hr5 hgb hcb5 hnc5 hcz5 hcs5 hcm hlen5))
            go_loopw [9, 10] (fun kv _ wr => ∃ (q : Nat) (a1 b1 : List (List UInt8)), kv = .int .i64 q ∧ q ≤ m ∧ Hid (a1.length = q) ∧ Hid (ss = a1 ++ b1) ∧ Hid (∀ y ∈ b1, b < y) ∧ Hid (RowX wr w.heap.size 9 1 (.slice (some ⟨g, 0, none⟩) L cap) ((a1 ++ b :: b1).map fun x => [kS x])) ∧ Hid (w.grownBy wr none)) (fun kv _ _ => (intOf kv).toNat)
            case atStart => exact ⟨m, ss, [], by go_num, Nat.le_refl _, HM.out, (List.append_nil ss).symm, (fun y hy => by cases hy), HR5.out, W5.out⟩
            case round =>
              obtain ⟨q, a1, b1, rfl, hqm, HQ, HAB, HB1, HR2, HW2⟩ := hrel
              have hm64 := HM64.out
              by_cases hq0 : 0 < q
              · have hqi : (0 : Int) < (q : Int) := by omega
                obtain ⟨a2, z, ha2⟩ : ∃ a2 z, a1 = a2 ++ [z] := by
                  rcases List.eq_nil_or_concat a1 with e | ⟨a2, z, e⟩
                  · have := HQ.out; rw [e] at this; simp at this; omega
                  · exact ⟨a2, z, by rw [e, List.concat_eq_append]⟩
                obtain ⟨q2, hq2⟩ : ∃ q2, a2.length = q2 := ⟨_, rfl⟩
                have hqq2 : q = q2 + 1 := by have := HQ.out; rw [ha2, List.length_append, hq2] at this; simp at this; omega
                have hqq : (q : Int) - 1 = (q2 : Int) := by omega
                obtain ⟨zs, hzs⟩ : ∃ zs : ByteArray, zs = ⟨z.toArray⟩ := ⟨_, rfl⟩
                have c1 : wr.cell? ⟨g, q, none⟩ = some (.string bs) := by
                  have h1 := rowX_at (k := q) (j := 0) (u := .string bs) HR2.out (c := [kS b]) (by rw [List.getElem?_map, List.getElem?_append_right (by rw [HQ.out]; exact Nat.le_refl _), HQ.out, Nat.sub_self]; rfl) (by rw [HBS.out]; rfl)
                  rwa [Nat.one_mul, Nat.add_zero] at h1
                have c2 : wr.cell? ⟨g, q2, none⟩ = some (.string zs) := by
                  have h1 := rowX_at (k := q2) (j := 0) (u := .string zs) HR2.out (c := [kS z]) (by rw [List.getElem?_map, ha2, List.append_assoc, List.getElem?_append_right (by omega), hq2, Nat.sub_self]; rfl) (by rw [hzs]; rfl)
                  rwa [Nat.one_mul, Nat.add_zero] at h1
                have hqL : (q : Int) < (L : Int) := by have := HL.out; omega
                have hqL2 : (q2 : Int) < (L : Int) := by have := HL.out; omega
                have HA2 := Lib.hid ha2
                have HQ2 := Lib.hid hq2
                have HZS := Lib.hid hzs
                have hbl : bs.toList = b := by rw [ByteArray.toList_eq]; have h1 := HBS.out; unfold kS at h1; injection h1 with h1; rw [h1]
                have hzl : zs.toList = z := by rw [ByteArray.toList_eq, hzs]
                have HQQ := Lib.hid hqq2
                clear ha2 hq2 hzs hqq2
                by_cases hbz : b < z
                · have dl : Op.bytesLess bs.toList zs.toList = true := by rw [hbl, hzl, bytesLess_eq]; exact decide_eq_true hbz
                  have HBZ := Lib.hid hbz
                  clear hbz hbl hzl
                  have TK0 := Lib.hid True.intro
                  go_wp2
                  go_quiet (fail)
                  have HR3 := Lib.hid (HR2.out.none (drewN_grown wr nq))
                  have HW3 := Lib.hid (grown_trans' HW2.out (drewN_grown wr nq))
                  have c3 : (wr.drewN nq).cell? ⟨g, q, none⟩ = some (.string bs) := c1
                  have c4 : (wr.drewN nq).cell? ⟨g, q2, none⟩ = some (.string zs) := c2
                  clear c1 c2
                  generalize World.drewN wr nq = wz at *
                  go_wp2_with (first
                    | (have hx := TK0; clear hx TK0; refine wpList_storeRow (off := q) (sz := 1) (k := q) (j := 0) (c := [kS b]) (u := .string zs) szStr rfl (.tmp 79) (.tmp 78) rfl HR3.out (by have := HQ.out; have h2 := congrArg List.length HAB.out; rw [List.length_append, HM.out] at h2; have h3 := HL.out; simp; omega) (by rw [List.getElem?_map, List.getElem?_append_right (by rw [HQ.out]; exact Nat.le_refl _), HQ.out, Nat.sub_self]; rfl) (by omega) rfl rfl (by omega) (by first | rfl | go_simp) (by first | rfl | go_simp) ?_
                       intro w6 h6 g6
                       have HR6 := Lib.hid h6
                       have HW6 := Lib.hid (none_new HW3.out g6 HGB.out)
                       clear h6 g6 c3 c4
                       have TK1 := Lib.hid True.intro)
                    | (have hx := TK1; clear hx TK1; refine wpList_storeRow (off := q2) (sz := 1) (k := q2) (j := 0) (c := [kS z]) (u := .string bs) szStr rfl (.tmp 84) (.tmp 83) rfl HR6.out (by rw [List.length_set]; have := HQ.out; have h2 := congrArg List.length HAB.out; rw [List.length_append, HM.out] at h2; have h3 := HL.out; simp; omega) (by rw [List.getElem?_set_ne (by have := HQQ.out; omega), List.getElem?_map, HA2.out, List.append_assoc, List.getElem?_append_right (by have := HQ2.out; omega), HQ2.out, Nat.sub_self]; rfl) (by omega) rfl rfl (by omega) (by first | rfl | go_simp) (by first | rfl | go_simp) ?_
                       intro w7 h7 g7
                       have HR7 := Lib.hid h7
                       have HW7 := Lib.hid (none_new HW6.out g7 HGB.out)
                       clear h7 g7))
                  go_roundw
                  case rel =>
                    refine ⟨q2, a2, z :: b1, by go_num, by have := HQQ.out; omega, HQ2.out, by rw [HAB.out, HA2.out, List.append_assoc]; rfl, (fun y hy => ?_), ?_, HW7.out⟩
                    · rcases List.mem_cons.1 hy with rfl | hy
                      · exact HBZ.out
                      · exact HB1.out y hy
                    · have h := HR7.out
                      rw [show [kS b].set 0 (Value.string zs) = [kS z] by rw [HZS.out]; rfl, show [kS z].set 0 (Value.string bs) = [kS b] by rw [HBS.out]; rfl, HA2.out, HQQ.out, ← HQ2.out, List.append_assoc] at h
                      rw [← swap_set a2 b1 z b (fun x => [kS x])]
                      exact h
                  case measure => simp [intOf]; have := HQQ.out; omega
                · have dl : Op.bytesLess bs.toList zs.toList = false := by rw [hbl, hzl, bytesLess_eq]; exact decide_eq_false hbz
                  have HBZ := Lib.hid hbz
                  clear hbz hbl hzl
                  go_wp2
                  go_quiet (fail)
                  go_wp2
                  go_roundw
                  case rel => exact ⟨i + 1, a1 ++ b :: b1, by omega, by go_num, HR2.out.none (drewN_grown wr nq), grown_trans' HW2.out (drewN_grown wr nq), by rw [HKD.out]; exact ((List.perm_middle.trans (List.perm_append_singleton b (a1 ++ b1)).symm).trans (List.Perm.append_right [b] (by rw [← HAB.out]; exact HPE.out))), ins_sorted (by rw [← HAB.out]; exact HSO.out) HB1.out (fun y hy => by rw [HA2.out, List.getLast?_append] at hy; simp at hy; rw [← hy]; exact HBZ.out)⟩
                  case measure => simp [intOf]; omega
              · have hqi : ¬ (0 : Int) < (q : Int) := by omega
                have HA1 := Lib.hid (show a1 = [] from List.eq_nil_of_length_eq_zero (by have := HQ.out; omega))
                go_wp2
                go_quiet (fail)
                go_wp2
                go_roundw
                case rel => exact ⟨i + 1, a1 ++ b :: b1, by omega, by go_num, HR2.out.none (drewN_grown wr nq), grown_trans' HW2.out (drewN_grown wr nq), by rw [HKD.out]; exact ((List.perm_middle.trans (List.perm_append_singleton b (a1 ++ b1)).symm).trans (List.Perm.append_right [b] (by rw [← HAB.out]; exact HPE.out))), ins_sorted (by rw [← HAB.out]; exact HSO.out) HB1.out (fun y hy => by rw [HA1.out] at hy; cases hy)⟩
                case measure => simp [intOf]; omega
        · have hkd : pr ≠ ds := fun e => hk (by rw [← HDS.out, ← e, hpr])
          have n3 := str_ne hkd
          have HKD := Lib.hid (show ((keysM (N.take (i + 1))).filter (kidB d)).map lastOf = ((keysM (N.take i)).filter (kidB d)).map lastOf by
            rw [HKT.out, List.filter_append, List.filter_cons, if_neg (by unfold kidB; simp [hk]), List.filter_nil, List.append_nil])
          clear hpr hk hab hb h47 hps hp hkd
          go_wp2_with (go_at_call 55; refine (PA.out _).mono ?_; rintro e w2 ⟨rfl, rfl⟩)
          go_roundw
          case rel => exact ⟨i + 1, ss, by omega, by go_num, HROW.out, HW.out, by rw [HKD.out]; exact HPE.out, HSO.out⟩
          case measure => simp [intOf]; omega
    · have hii : ¬ (i : Int) < (n : Int) := by omega
      have HNM := Lib.hid (show Named N d ss from ⟨by have h1 := HPE.out; rw [List.take_of_length_le (by rw [HN.out]; omega)] at h1; exact h1, HSO.out⟩)
      go_wp2
      go_ret
      exact ⟨_, ss, rfl, HNM.out, HROW.out, HW.out⟩
end Go.Proofs.YtlkchajkhplapaaGreatDoor
